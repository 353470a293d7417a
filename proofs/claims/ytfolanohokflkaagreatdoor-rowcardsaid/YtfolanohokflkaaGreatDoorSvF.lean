import Derived.Test.YtfolanohokflkaaGreatDoorSvB
import Derived.Test.YtfolanohokflkaaGreatDoorShelfG
import Derived.Shelf.SlSortCmp.WholeK
import Derived.Shelf.SlSortCmp.NoneTotal
import Derived.Sort.OwnSorted
import Derived.Test.YtfolanohokflkaaGreatDoorTabC
import Derived.Deep.QuietTactic
import Derived.BigQuiet
import Derived.BigRegion
import Derived.WalkKit
import Derived.WalkSpells
import Derived.WalkLawsBesides
import Derived.Deep.AppendLies
import Derived.Deep.RegionLaw
namespace Go.Proofs.YtfolanohokflkaaGreatDoor
open Go.RowKit Go.Shelf Go.Sort Go.Lib
def pQ (x:Int×Int):List Value:=[.int .i32 x.1,.int .i32 x.2]
def xW (a b:Int):Int:=if a<b then -1 else if b<a then 1 else 0
set_option maxHeartbeats 1000000 in
theorem uX (x:Int) (w:World):Calls Tryz.prog 253 #[.int .i32 x] w fun e w'=>e=.returned (.bool false)/\w=w':=by
 go_enter Tryz.func253,Tryz.ntmps253
 go_wp2
 go_ret
 exact ⟨rfl,rfl⟩
set_option maxHeartbeats 1000000 in
theorem Gg (x y:Int) (w:World):Calls Tryz.prog 238 #[.int .i32 x,.int .i32 y] w fun e w'=>e=.returned (.int .i64 (xW x y))/\w=w':=by
 by_cases h1:x<y
 ·go_enter Tryz.func238,Tryz.ntmps238
  go_wp2_with (go_at_call 253;refine (uX _ _).mono ?_;rintro e w' ⟨rfl,rfl⟩)
  go_ret
  exact ⟨by simp [xW,h1],rfl⟩
 ·by_cases h2:y<x
  ·go_enter Tryz.func238,Tryz.ntmps238
   go_wp2_with (go_at_call 253;refine (uX _ _).mono ?_;rintro e w' ⟨rfl,rfl⟩)
   go_ret
   exact ⟨by simp [xW,h1,h2],rfl⟩
  ·go_enter Tryz.func238,Tryz.ntmps238
   go_wp2_with (go_at_call 253;refine (uX _ _).mono ?_;rintro e w' ⟨rfl,rfl⟩)
   go_ret
   exact ⟨by rw [xW,if_neg (by omega),if_neg (by omega)];rfl,rfl⟩
set_option maxHeartbeats 1000000 in
theorem MG (x y:Int×Int) (W:World):Calls Tryz.prog 237 #[.agg #[.int .i32 x.1,.int .i32 x.2],.agg #[.int .i32 y.1,.int .i32 y.2]] W fun e w'=>e=.returned (.int .i64 (xW x.1 y.1))/\∃ q os',w'=grow (W.drewN q) os':=by
 have hcon:=fun W'=>Gg x.1 y.1 W'
 generalize xW x.1 y.1=r at hcon ⊢
 go_enter Tryz.func237,Tryz.ntmps237
 go_wp2_with (go_at_call 238;refine (hcon _).mono ?_;rintro e w' ⟨rfl,rfl⟩)
 go_ret
 exact ⟨rfl,0,_,by rw [alloc_eq_grow,alloc_eq_grow,grow_grow];rfl⟩
theorem MH (blk off size:Nat) (w:World):CmpLays Tryz.prog 237 #[] pQ 2 (fun x y=>xW x.1 y.1) blk off size w:=
 fun _ _ _ _ x y=>MG x y _
theorem Y7 (x y:Int×Int):ltOf (fun x y:Int×Int=>xW x.1 y.1) x y=decide (x.1<y.1):=by
 unfold ltOf xW
 by_cases h1:x.1<y.1
 ·simp [h1]
 ·by_cases h2:y.1<x.1<;>simp [h1,h2]
theorem ade:SWO (ltOf fun x y:Int×Int=>xW x.1 y.1) where
 irrefl x:=by rw [Y7];simp
 trans x y z h1 h2:=by rw [Y7] at *;simp at *;omega
 ntrans x y z h1 h2:=by rw [Y7] at *;simp at *;omega
theorem iZ:∀ (l:List (Int×Int)) (i:Nat) (h:i<l.length),(aJ l)[i*2]? = some (.int .i32 l[i].1)/\(aJ l)[i*2+1]? = some (.int .i32 l[i].2)
 | [],_,h=>by simp at h
 | x::l,0,_=>⟨rfl,rfl⟩
 | x::l,i+1,h=>by
  have ih:=iZ l i (by simpa using h)
  rw [show (i+1)*2=i*2+1+1 from by omega]
  simpa [aJ] using ih
theorem OV (d:Array (Int×Int)):flatK pQ 2 d=(aJ d.toList).toArray:=by
 apply Array.ext
 ·simp [iT]
 ·intro t h1 h2
  rw [size_flatK] at h1
  have hlt:t / 2<d.toList.length:=by simp;omega
  have hd:d[t / 2]! = d.toList[t / 2]:=by
   rw [getElem!_pos d (t / 2) (by simpa using hlt)];simp
  have hg:=iZ d.toList (t / 2) hlt
  have e1:(flatK pQ 2 d)[t]=(pQ d[t / 2]!)[t % 2]! := by rw [<-get_flatK pQ 2 d t h1,getElem!_pos _ t (by simpa using h1)]
  rw [e1,hd]
  have e2:(aJ d.toList).toArray[t]=((aJ d.toList)[t]?).getD default:=by
   rw [List.getElem?_eq_getElem (by simpa using h2)];simp
  rw [e2]
  rcases Nat.mod_two_eq_zero_or_one t with h | h
  ·have e3:(aJ d.toList)[t]? = some (.int .i32 d.toList[t / 2].1):=by
    have:=hg.1
    rwa [show t / 2*2=t from by omega] at this
   rw [h,e3];rfl
  ·have e3:(aJ d.toList)[t]? = some (.int .i32 d.toList[t / 2].2):=by
    have:=hg.2
    rwa [show t / 2*2+1=t from by omega] at this
   rw [h,e3];rfl
theorem UI {w:World} {g:Nat} {cur:Array Value} {e:TypeId} {zs:List (Int×Int)} (hb:w.heap[g]? = some (.cells cur e (0,0))) (ht:cur.toList.take (zs.length*2)=aJ zs):HoldsK pQ 2 w g 0 zs.toArray:=by
 unfold HoldsK
 rw [OV]
 intro j hj
 have hj':j<(aJ zs).length:=by simpa using hj
 have hj2:j<zs.length*2:=by rw [<-iT];exact hj'
 refine ⟨?_,by simp [World.frozen?,hb]⟩
 have h1:(cur.toList.take (zs.length*2))[j]? = (aJ zs)[j]? := by rw [ht]
 rw [List.getElem?_take_of_lt hj2] at h1
 simp only [World.cell?,hb,Nat.zero_add]
 simp only [Option.isSome_none,Bool.false_eq_true,if_false]
 rw [<-Array.getElem?_toList,h1]
 simp [hj']
theorem Gh {w:World} {g n:Nat} {os:Array Obj} {cur:Array Value} {e:TypeId} {fr:Nat×Nat} (d:Array (Int×Int)) (hb:w.heap[g]? = some (.cells cur e fr)) :
  (sortWorldK pQ 2 w g 0 n d os).heap[g]? = some (.cells (putCells id 0 (flatK pQ 2 d) cur) e fr):=by
 have hg:g<w.heap.size:=(Array.getElem?_eq_some_iff.1 hb).1
 unfold sortWorldK putRowK
 rw [heap_grow_old _ _ (by simpa using hg)]
 simp [putRow,mapBlock,Sort.ahead,Array.getElem?_modify,hb,onCells]
theorem DY {w:World} {g n:Nat} {os:Array Obj} (d:Array (Int×Int)):w.grownBy (sortWorldK pQ 2 w g 0 n d os) (some g):=by
 unfold sortWorldK putRowK
 refine ⟨rfl,rfl,rfl,by simp,fun k hk hne=>?_⟩
 rw [heap_grow_old _ _ (by simpa using hk)]
 have:g≠k:=fun e=>hne (by rw [e])
 simp [putRow,mapBlock,Sort.ahead,Array.getElem?_modify,this]
theorem Gi {w:World} {base g cap n:Nat} {e:TypeId} {os:Array Obj} {cur:Array Value} {ts:List (Int×Int)} {m:Nat} (hl:ts.length=m) (hbase:base<=g) (hb:w.heap[g]? = some (.cells cur e (0,0)))
  (h1:m<=cap) (h2:cap<=maxLen) (h3:cur.size=cap*2) :
  (sortWorldK pQ 2 w g 0 n ts.toArray os).ownsRow base e 2 (.slice (some ⟨g,0,none⟩) m cap) m (aJ ts):=by
 refine ⟨by rw [iT,hl],.inr ⟨g,cap,_,rfl,hbase,Gh _ hb,h1,h2,by simp [putCells,h3],?_⟩⟩
 rw [OV]
 apply List.ext_getElem?
 intro j
 have hlen:=iT ts
 by_cases hj:j<m*2
 ·rw [List.getElem?_take_of_lt hj,Array.getElem?_toList]
  have hj2:j<(aJ ts).length:=by omega
  have hj3:j<cur.size:=by omega
  simp [putCells,hj2,hj3]
 ·rw [List.getElem?_take_eq_none (by omega),List.getElem?_eq_none (by omega)]
theorem abB {d:Array (Int×Int)} (h:SortedIn (ltOf fun x y:Int×Int=>xW x.1 y.1) 0 d.size d):IM d.toList:=by
 rw [IM,List.pairwise_iff_getElem]
 intro i j hi hj hij
 have:=h i j (Nat.zero_le _) hij (by simpa using hj)
 rw [Y7,getElem!_pos d j (by simpa using hj),getElem!_pos d i (by simpa using hi)] at this
 simp at this ⊢
 omega
theorem Y8 {d d':Array (Int×Int)} (h:PermIn 0 d.size d d'):d'.toList.Perm d.toList:=by
 have:=h.2.2
 have e1:d'.extract 0 d.size=d':=by rw [<-h.1];simp
 have e2:d.extract 0 d.size=d:=by simp
 rwa [e1,e2] at this
set_option maxRecDepth 100000 in
set_option maxHeartbeats 2000000 in
theorem MI (lb:Array Value) (zs:List (Int×Int)) (hz:zs.length<=100000) (w:World)
  (hseq:SeqStopsK Fence.wide 5 Tryz.prog 270 lb (fun x:Int×Int=>#[rJ x]) (Below w.heap.size) (fun ys=>ys=zs) (fun pre=>pre <+: zs) zs.length w) :
  Calls Tryz.prog 235 #[.func (.func 270) #[] lb,.func (.func 237) #[] #[]] w fun e w'=>
   ∃ v ts,e=.returned v/\ts.Perm zs/\IM ts/\w'.ownsRow w.heap.size 248 2 v zs.length (aJ ts)/\Below w.heap.size w w':=by
 have hC:=callsIn_wide.1 (collect_in 7 (by omega) lb zs hz w hseq)
 have eg:∀ args w,(callFunc 237 args).run Tryz.prog w=.ok (.enter 237 args) w:=enters_of Tryz.func237 (by kernel_rfl) rfl
 clear hseq
 go_enter Tryz.func235,Tryz.ntmps235
 go_wp2_with (go_at_call 268;refine hC.mono ?_;rintro e W ⟨v,rfl,hrow,hb⟩)
 rcases hrow.2 with ⟨rfl,hz0⟩ | ⟨gb,cap,cur,rfl,hbase,hgb,r1,r2,r3,r4⟩
 ·have hss:zs=[]:=List.eq_nil_of_length_eq_zero hz0
  subst hss
  have hN:Calls Tryz.prog 269 #[.slice none 0 0,.func (.func 237) #[] #[]] W fun e w'=>e=.returned (.tuple #[])/\w'=W:=AnyF.slices_SortFunc_none Tryz.Gf none 0 _ W
  go_wp2_with (go_at_call 269;refine hN.mono ?_;rintro e w' ⟨rfl,rfl⟩)
  go_ret
  exact ⟨_,[],rfl,List.Perm.refl _,List.Pairwise.nil,hrow,hb⟩
 ·have hgl:gb<W.heap.size:=(Array.getElem?_eq_some_iff.1 hgb).1
  have hS:Calls Tryz.prog 269 #[.slice (some ⟨gb,0,none⟩) zs.length cap,.func (.func 237) #[] #[]] W fun e w'=>e=.returned (.tuple #[])/\∃ d' n os,PermIn 0 zs.toArray.size zs.toArray d'/\SortedIn (ltOf fun x y:Int×Int=>xW x.1 y.1) 0 zs.toArray.size d'/\w'=sortWorldK pQ 2 W gb 0 n d' os:=
   AnyQ.slices_SortFunc Tryz.Gf 2 Tryz.isAgg248 Tryz.sizeOf248 pQ (fun _=>rfl) (fun x v hv=>by simp [pQ] at hv;rcases hv with rfl | rfl<;>rfl) (fun x y=>xW x.1 y.1) ade 237 #[] gb 0 cap zs.toArray W eg (MH gb 0 _ W) (UI hgb r4) hgl (by simp;omega)
  have HR:=hide hrow
  have HB:=hide hb
  have HS:=hide hS
  clear hrow hb hS
  go_wp2_with (go_at_call 269;refine (aa HS).mono ?_;rintro e w' ⟨rfl,d',n,os,hp,hs,rfl⟩)
  go_ret
  have hsz:d'.toList.length=zs.length:=by have:=hp.1;simpa using this
  refine ⟨_,d'.toList,rfl,by simpa using Y8 hp,abB (by have:=hp.1;rw [this];exact hs),?_,?_⟩
  ·have:=Gi (n:=n) (os:=os) (ts:=d'.toList) hsz hbase hgb r1 r2 r3
   simpa using this
  ·exact (aa HB).grown (DY d') (aa HB).size (fun j hj=>by cases hj;exact hbase)
end Go.Proofs.YtfolanohokflkaaGreatDoor
namespace Go.Proofs.YtfolanohokflkaaGreatDoor
open Go.RowKit
set_option maxHeartbeats 1000000 in
theorem xX (c:Int) (w:World) (h0:0<=c) (h1:c<=1114112):Calls Tryz.prog 232 #[.int .i32 c] w fun e w'=>e=.returned (.int .i32 (kJ c))/\w=w':=by
 by_cases h:c=55295
 ·subst h
  go_enter Tryz.func232,Tryz.ntmps232
  go_wp2
  go_ret
  exact ⟨rfl,rfl⟩
 ·have hne:(c==(55295:Int))=false:=by simp [h]
  have hw:IntKind.i32.wrap (c+1)=c+1:=by simp [IntKind.wrap,IntKind.bits,IntKind.signed];omega
  have ha:kJ c=c+1:=by rw [kJ,if_neg h]
  rw [ha]
  clear h ha
  go_enter Tryz.func232,Tryz.ntmps232
  go_wp2
  go_ret
  exact ⟨rfl,rfl⟩
set_option maxHeartbeats 1000000 in
theorem Rt (c:Int) (w:World) (h0:0<c) (h1:c<=1114111):Calls Tryz.prog 231 #[.int .i32 c] w fun e w'=>e=.returned (.int .i32 (if c=57344 then 55295 else c - 1))/\w=w':=by
 by_cases h:c=57344
 ·subst h
  go_enter Tryz.func231,Tryz.ntmps231
  go_wp2
  go_ret
  exact ⟨rfl,rfl⟩
 ·have hne:(c==(57344:Int))=false:=by simp [h]
  have hw:IntKind.i32.wrap (c - 1)=c - 1:=by simp [IntKind.wrap,IntKind.bits,IntKind.signed];omega
  rw [if_neg h]
  clear h
  go_enter Tryz.func231,Tryz.ntmps231
  go_wp2
  go_ret
  exact ⟨rfl,rfl⟩
def fJ (zs:List Int):List Value:=zs.map (Value.int .i32)
theorem IW:(Tryz.prog.info? 21).map (fun i=>(i.zero,i.size,i.bytes))=some (some (.int .i32 0),1,4):=by kernel_rfl
def jm (w wr:World) (v:Value) (acc:ah):Prop:=wr.ownsRow w.heap.size 21 1 v (bI acc).length (fJ (bI acc))/\Below w.heap.size w wr
theorem jm.drewN {w wr:World} {v:Value} {acc:ah} (h:jm w wr v acc) (q:Nat):jm w (wr.drewN q) v acc:=⟨h.1,⟨h.2.os,h.2.tape,h.2.output,h.2.size,h.2.block⟩⟩
theorem UJ {w w':World} {v':Value} {acc:ah} {lo hi:Int} (ho:Hid (w'.ownsRow w.heap.size 21 1 v' ((bI acc).length+2) (fJ (bI acc)++[.int .i32 lo,.int .i32 hi]))) (hb:Hid (Below w.heap.size w w')):Hid (jm w w' v' (acc++[(lo,hi)])):=by
 refine ⟨?_,hb⟩
 rw [mV,List.length_append]
 have e:fJ (bI acc++bI [(lo,hi)])=fJ (bI acc)++[.int .i32 lo,.int .i32 hi]:=by simp [fJ,bI]
 rw [e]
 exact ho
theorem IX {ops:Array Oper} {rest:List Oper} {o:Oper} {a:Act} {Q:Exit->Act->World->Prop} (w wr:World) (acc:ah) (v:Value) (lo hi:Int) (s x:Operand) (hg:o.guard=none)
  (hop:o.op=.call { callee:=.builtin .append,args:=#[s,x],argTypes:=#[107,107] }) (hs:a.eval s=v) (hx:a.eval x=.slice (some ⟨wr.heap.size,0,none⟩) 2 2)
  (ho:Hid (jm w wr v acc)) (hl:acc.length<=2000)
  (K:∀ ae ce w',Hid (jm w w' (.slice ae ((bI acc).length+2) ce) (acc++[(lo,hi)]))->wpList Tryz.prog ops Q rest (a.put o.dst (.slice ae ((bI acc).length+2) ce)) w') :
  wpList Tryz.prog ops Q (o::rest) a (wr.alloc (.cells #[.int .i32 lo,.int .i32 hi] 21)):=by
 obtain ⟨i0,hi0,hz0,hz1,hz2⟩:=info_parts IW
 obtain ⟨hown,hb'⟩:=aa ho
 have:=hb'.size
 have hfl:=fZ acc
 refine wpList_append_own _ hg s x 107 hop w.heap.size 21 i0 (.int .i32 0) 1 4 Tryz.underlying107 hi0 hz0 hz1 hz2 rfl (by decide) _ _ _ hs (hown.alloc _) ⟨wr.heap.size,0,none⟩ 2 2 [.int .i32 lo,.int .i32 hi] hx rfl (bM wr [.int .i32 lo,.int .i32 hi] _) (by intro u hu;simp at hu;rcases hu with rfl | rfl<;>rfl) (by unfold maxLen;omega) (by omega) (by simp;omega) ?_
 intro v' w' h1 h2 _
 obtain ⟨ae,ce,rfl,-⟩:=aO h1
 exact K ae ce w' (UJ h1 (ji hb' hown h2 hb'.size))
theorem A9:∀ (L:ah) (x:Int×Int) (h:Int),(fJ (bI (L++[x]))).set (L.length*2+1) (.int .i32 h)=fJ (bI (L++[(x.1,h)]))
 | [],_,_=>rfl
 | y::L,x,h=>by
  have:=A9 L x h
  rw [show (y::L).length*2+1=(L.length*2+1)+1+1 from by simp;omega]
  simp only [List.cons_append,bI,fJ,List.map_cons,List.set_cons_succ]
  simp only [fJ] at this
  rw [this]
theorem MJ {w wq:World} {ge m ce:Nat} {L:ah} {x:Int×Int} {h:Int} (he:Hid (jm w wq (.slice (some ⟨ge,0,none⟩) (m+1) ce) (L++[x]))) (hm:Hid (m=L.length*2+1)) :
  Hid (jm w ((wq.setCell ⟨ge,m,none⟩ (.int .i32 h)).drew) (.slice (some ⟨ge,0,none⟩) (m+1) ce) (L++[(x.1,h)])):=by
 obtain ⟨h1,h2⟩:=aa he
 have hl:(bI (L++[x])).length=m+1:=by rw [fZ,aa hm];simp;omega
 have hl2:(bI (L++[(x.1,h)])).length=m+1:=by rw [fZ,aa hm];simp;omega
 have hge:w.heap.size<=ge:=by
  rcases h1.2 with ⟨e,_⟩ | ⟨g,cap,cur,e,hb,_⟩
  ·cases e
  ·have e1:=(Value.slice.inj e).1
   simp at e1
   rw [e1];exact hb
 have h3:=YJ h1 (g:=ge) (j:=m) rfl (by omega) (.int .i32 h)
 rw [aa hm,A9,<-aa hm,hl] at h3
 have h4:=h2.setCell (p:=⟨ge,m,none⟩) hge (.int .i32 h)
 refine ⟨?_,⟨h4.os,h4.tape,h4.output,h4.size,h4.block⟩⟩
 rw [hl2];exact h3
theorem abC {ts:ah} {k m:Nat} {L:ah} {x p:Int×Int} {h:Int} (hms:Hid (gM (ts.take (k+1))=l7 (L++[x]) p)) (hm:Hid (m=L.length*2+1)) (he:l7 (L++[x]) p=L++[(x.1,h)]):Hid (m+1=(bI (gM (ts.take (k+1)))).length):=by
 show m+1=_
 rw [aa hms,he,fZ,aa hm];simp;omega
theorem Ru {w wr W:World} {v:Value} {acc:ah} (h:jm w wr v acc) (hh:W.heap=wr.heap):W.ownsRow w.heap.size 21 1 v (bI acc).length (fJ (bI acc)):=by
 obtain ⟨hl,hx | ⟨g,cap,cur,hv,hb',hg,rest⟩⟩:=h.1
 ·exact ⟨hl,.inl hx⟩
 ·exact ⟨hl,.inr ⟨g,cap,cur,hv,hb',by rw [hh];exact hg,rest⟩⟩
theorem Rv {W:World} {base n ce:Nat} {ae:Option Addr} {acc:ah} (h:W.ownsRow base 21 1 (.slice ae n ce) (bI acc).length (fJ (bI acc))) (hn:n=(bI acc).length) :
  (convert 107 61 (.slice ae n ce)).run Tryz.prog W=.ok (.string (encS acc)) W:=by
 have hc:=fun g (hg:(Value.slice ae n ce).ownBlock=some g)=>h.cells hg
 rcases h.2 with ⟨e,hz⟩ | ⟨g,cap,cur,e,hb,hg,h1,h2,h3,h4⟩
 ·cases e
  rw [run_convert_runes_nil W _ _ 21 0 0 Tryz.underlying107 Tryz.underlying21 Tryz.underlying61]
  rw [encS,List.eq_nil_of_length_eq_zero hz];rfl
 ·cases e
  have:=run_convert_runes W 107 61 21 ⟨g,0,none⟩ (bI acc).length ce (bI acc) (Nat.le_refl _) Tryz.underlying107 Tryz.underlying21 Tryz.underlying61 (fun j hj=>hc g rfl j _ (by simp [fJ,hj]))
  rw [this,List.take_length];rfl
theorem Gj (wr:World) (lo hi:Int) (q:Nat):((wr.alloc (.cells #[.int .i32 lo,.int .i32 hi] 248)).drewN q).cell? ⟨wr.heap.size,0,none⟩=some (.int .i32 lo):=(uR.new wr (lo,hi)).c0
theorem MK (wr:World) (lo hi:Int) (q:Nat):((wr.alloc (.cells #[.int .i32 lo,.int .i32 hi] 248)).drewN q).cell? ⟨wr.heap.size,1,none⟩=some (.int .i32 hi):=(uR.new wr (lo,hi)).c1
set_option maxRecDepth 100000 in
set_option maxHeartbeats 4000000 in
theorem pR (w:World) (sv:Value) (zs:List (Int×Int)) (hz:zs.length<=1000) (hI:vT w.heap.size w sv zs) (hg:∀ p∈zs,jN p) :
  Calls Tryz.prog 160 #[sv] w fun e w'=>e=.returned (.string (encS (iX zs)))/\Below w.heap.size w w':=by
 obtain ⟨a,n0,cap,rfl⟩:∃ a n0 cap,sv=.slice a n0 cap:=by
  rcases hI with ⟨rfl,_⟩ | ⟨b,off,cap,rfl,_⟩
  ·exact ⟨_,_,_,rfl⟩
  ·exact ⟨_,_,_,rfl⟩
 have hB0:Below w.heap.size w (w.alloc (.cells #[.slice a n0 cap] 237)):=(Below.refl _ w).alloc (Nat.le_refl _) _
 have hI1:vT (w.alloc (.cells #[.slice a n0 cap] 237)).heap.size (w.alloc (.cells #[.slice a n0 cap] 237)) (.slice a n0 cap) zs:=by
  rcases hI.below hB0 with h | ⟨b,off,cap',e,hb,hc⟩
  ·exact .inl h
  ·exact .inr ⟨b,off,cap',e,by simp;omega,hc⟩
 have hV:=callsIn_wide.1 (Y2 1 a n0 cap w)
 have hS:=MI #[.pointer (some ⟨w.heap.size,0,none⟩)] zs (by omega) _ (MB 5 (by omega) w.heap.size _ _ zs (by omega) _ (by simp) (Nat.le_refl _) (Boxed.new w 237 (.slice a n0 cap)).cell hI1)
 generalize hW1:w.alloc (.cells #[.slice a n0 cap] 237)=w1 at *
 have HV:=hide hV
 have HS:=hide hS
 have HB0:=hide hB0
 have HG:=hide hg
 clear hV hS hB0 hI hI1 hg hW1
 go_enter Tryz.func160,Tryz.ntmps160
 go_wp2_with (first
  | (go_at_call 236;refine (aa HV).mono ?_;clear HV;rintro e w' ⟨rfl,rfl⟩)
  | (go_at_call 235;refine (aa HS).mono ?_;clear HS;rintro e w2 ⟨v,ts,rfl,hp,hs,hrow,hb⟩;have HP:=hide hp;have UK:=hide hs;have HB:=hide hb;obtain ⟨av,cv,rfl,hvw⟩:=aO hrow;have ML:=hide hvw;clear hp hs hrow hb hvw))
 have hlen:ts.length=zs.length:=(aa HP).length_eq
 have HGT:Hid (∀ p∈ts,jN p):=fun p h=>aa HG p ((aa HP).mem_iff.1 h)
 have IY:Hid (Below w.heap.size w w2):=(aa HB0).trans ((aa HB).mono (aa HB0).size)
 have hR0:Hid (jm w2 w2 (.slice none 0 0) (gM (ts.take 0))):=⟨World.ownsRow_nil _ _ _ _,Below.refl _ _⟩
 go_loopw [4,13] (fun v i wr=>∃ (k n:Nat) (ae:Option Addr) (ce:Nat),k<=zs.length/\i=.int .i64 k/\v=.slice ae n ce/\Hid (n=(bI (gM (ts.take k))).length)/\Hid (jm w2 wr (.slice ae n ce) (gM (ts.take k)))) (fun _ i _=>zs.length - (intOf i).toNat)
 case atStart=>exact ⟨0,0,none,0,Nat.zero_le _,rfl,rfl,rfl,hR0⟩
 case round=>
  obtain ⟨k,n,ae,ce,hk,rfl,rfl,HN,HE⟩:=hrel
  obtain ⟨hown,hbel⟩:=aa HE
  by_cases hlt:k<zs.length
  ·obtain ⟨g,rfl,-,hg,hc,-⟩:=aa ML (by omega)
   have hkt:k<ts.length:=by omega
   have hget:=iZ ts k hkt
   have c1:=hc (k*2) (by omega)
   have c2:=hc (k*2+1) (by omega)
   rw [hget.1,<-hbel.cell (p:=⟨g,k*2,none⟩) hg] at c1
   rw [hget.2,<-hbel.cell (p:=⟨g,k*2+1,none⟩) hg] at c2
   have htk:ts.take (k+1)=ts.take k++[ts[k]]:=List.take_succ_eq_append_getElem hkt
   have hgp:=aa HGT ts[k] (List.getElem_mem hkt)
   have hms:gM (ts.take (k+1))=l7 (gM (ts.take k)) ts[k]:=by rw [htk,MC]
   have hml:(gM (ts.take k)).length<=1000:=by have:=Rq (ts.take k);rw [List.length_take] at this;omega
   have Y9:=hide hms
   have adf:=HGT
   have adg:=UK
   clear hms htk hget hc ML HP UK HG HGT
   generalize hx1:ts[k].1=lo at c1
   generalize hx2:ts[k].2=hi at c2
   have hpe:ts[k]=(lo,hi):=Prod.ext hx1 hx2
   rw [hpe] at Y9 hgp
   clear hx1 hx2 hpe
   obtain ⟨_,_,hvv,hve⟩:=aO hown
   rw [<-aa HN] at hve
   obtain ⟨rfl,-,rfl⟩:=Value.slice.inj hvv
   clear hvv
   rcases List.eq_nil_or_concat (gM (ts.take k)) with hnil | ⟨L,x,hcon⟩
   ·have hn0:n=0:=by rw [aa HN,hnil];rfl
    subst hn0
    rw [hnil] at HE Y9 hml
    have HE':Hid _:=hide (show jm w2 (wr.alloc (.cells #[.int .i32 lo,.int .i32 hi] 248)) (.slice ae 0 ce) [] from ⟨(aa HE).1.alloc _,(aa HE).2.alloc (aa HE).2.size _⟩)
    clear hown hbel hve hnil HE HN
    go_wp2_with fail
    go_quiet (fail)
    have q0:=Gj wr lo hi nq
    have q1:=MK wr lo hi nq
    have HEq:=hide ((aa HE').drewN nq)
    clear HE'
    generalize (wr.alloc (.cells #[.int .i32 lo,.int .i32 hi] 248)).drewN nq=wq at *
    go_wp2_with (at_builtin;refine IX w2 wq [] _ lo hi (.tmp 42) (.tmp 47) rfl rfl rfl rfl HEq (by simp) ?_;intro ae1 ce1 w1 HE1)
    go_roundw
    case rel=>exact ⟨k+1,_,ae1,ce1,by omega,by go_num,rfl,(by show _=_;rw [aa Y9];rfl),(by rw [aa Y9,xU];exact HE1)⟩
    case measure=>simp [intOf];omega
   ·simp only [List.concat_eq_append] at hcon
    obtain ⟨m,hm⟩:∃ m,m=L.length*2+1:=⟨_,rfl⟩
    have hn2:n=m+1:=by rw [aa HN,hcon,mV,List.length_append,fZ,hm];rfl
    subst hn2
    rw [hcon] at HE Y9 hml
    have hxg:jN x:=by
     have:=bD (Gd (ts.take k) (acc:=[]) trivial (fun p hp=>aa adf p (List.mem_of_mem_take hp)) ((aa adg).sublist (List.take_sublist _ _)) (by simp)).1 x
     exact this (by show x∈gM (ts.take k);rw [hcon];simp)
    have HE':Hid _:=hide (show jm w2 (wr.alloc (.cells #[.int .i32 lo,.int .i32 hi] 248)) (.slice ae (m+1) ce) (L++[x]) from ⟨(aa HE).1.alloc _,(aa HE).2.alloc (aa HE).2.size _⟩)
    obtain ⟨ge,rfl,hge,adh,hce,hfe⟩:=hve (by omega)
    have ce1:=hce m (by omega)
    have fe1:=hfe m
    have afc:L.length<=1000:=by simp at hml;omega
    have hat:(fJ (bI (gM (ts.take k))))[m]? = some (.int .i32 x.2):=by
     rw [hcon,mV,hm]
     have hl:=fZ L
     simp [fJ,bI,hl]
    rw [hat] at ce1
    have hx2:=aC.1 hxg.2.1
    have HM:=hide hm
    have hmb:m<=2001:=by omega
    have hm1:1<=m:=by omega
    have hd0:decide (0<m)=true:=by simp;omega
    clear hown hbel hve hcon HE HN hce hfe hat hm adf adg
    have hbl:=(aa HE').2
    have cq:∀ q,((wr.alloc (.cells #[.int .i32 lo,.int .i32 hi] 248)).drewN q).cell? ⟨ge,m,none⟩=some (.int .i32 x.2):=fun q=>((Below.refl wr.heap.size wr).alloc (Nat.le_refl _) _).cell (p:=⟨ge,m,none⟩) adh |>.trans ce1
    have fq:∀ q,((wr.alloc (.cells #[.int .i32 lo,.int .i32 hi] 248)).drewN q).frozen? ⟨ge,m,none⟩=false:=fun q=>((Below.refl wr.heap.size wr).alloc (Nat.le_refl _) _).frozen (p:=⟨ge,m,none⟩) adh |>.trans fe1
    have q0:=fun q=>Gj wr lo hi q
    have q1:=fun q=>MK wr lo hi q
    by_cases hle:lo<=kJ x.2
    ·have hA:∀ W:World,Calls Tryz.prog 232 #[.int .i32 x.2] W fun e w'=>e=.returned (.int .i32 (kJ x.2))/\w'=W:=fun W=>(xX x.2 W (by omega) (by omega)).mono fun e w' hh=>⟨hh.1,hh.2.symm⟩
     obtain ⟨av,MM⟩:∃ av,kJ x.2=av:=⟨_,rfl⟩
     rw [MM] at hle hA
     have HA:=hide hA
     have HAV:=hide MM
     clear hA MM
     go_wp2_with fail
     go_quiet ((go_at_call 232;exact Calls.quiet_of_same (aa HA _)))
     have q0':=q0 nq
     have q1':=q1 nq
     have cq':=cq nq
     have fq':=fq nq
     have HEq:=hide ((aa HE').drewN nq)
     clear HE' q0 q1 cq fq HA hbl c1 c2 ce1 fe1
     generalize (wr.alloc (.cells #[.int .i32 lo,.int .i32 hi] 248)).drewN nq=wq at *
     go_wp2_with fail
     go_region
     go_wp2_with fail
     go_roundw
     case rel=>exact ⟨k+1,m+1,_,_,by omega,by go_num,rfl,abC Y9 HM (by rw [lv,if_pos (by rw [aa HAV];exact hle)]),(by rw [aa Y9,lv,if_pos (by rw [aa HAV];exact hle)];exact MJ HEq HM)⟩
     case measure=>simp [intOf];omega
    ·have hA:∀ W:World,Calls Tryz.prog 232 #[.int .i32 x.2] W fun e w'=>e=.returned (.int .i32 (kJ x.2))/\w'=W:=fun W=>(xX x.2 W (by omega) (by omega)).mono fun e w' hh=>⟨hh.1,hh.2.symm⟩
     have hdl:decide (lo<=kJ x.2)=false:=by simpa using hle
     obtain ⟨av,MM⟩:∃ av,kJ x.2=av:=⟨_,rfl⟩
     rw [MM] at hle hA hdl
     have HA:=hide hA
     have HAV:=hide MM
     clear hA MM
     go_wp2_with fail
     go_quiet ((go_at_call 232;exact Calls.quiet_of_same (aa HA _)))
     have q0':=q0 nq
     have q1':=q1 nq
     have HEq:=hide ((aa HE').drewN nq)
     clear HE' q0 q1 cq fq HA hbl c1 c2 ce1 fe1
     generalize (wr.alloc (.cells #[.int .i32 lo,.int .i32 hi] 248)).drewN nq=wq at *
     go_wp2_with (at_builtin;refine IX w2 wq (L++[x]) _ lo hi (.tmp 42) (.tmp 47) rfl rfl rfl rfl HEq (by simp;omega) ?_;intro ae1 ce2 w1 HE1)
     go_roundw
     case rel=>exact ⟨k+1,_,ae1,ce2,by omega,by go_num,rfl,(by show _=_;rw [aa Y9,lv,if_neg (by rw [aa HAV];show ¬ lo<=av;omega),mV (L++[x]),List.length_append];rfl),(by rw [aa Y9,lv,if_neg (by rw [aa HAV];show ¬ lo<=av;omega)];exact HE1)⟩
     case measure=>simp [intOf];omega
  ·have hkz:k=ts.length:=by omega
   have hcv:∀ (W:World),W.heap=wr.heap->(convert 107 61 (.slice ae n ce)).run Tryz.prog W=.ok (.string (encS (gM ts))) W:=by
    intro W hW
    rw [hkz,List.take_length] at HE HN
    exact Rv (Ru (aa HE) hW) (aa HN)
   have hfin:gM ts=iX zs:=IP (aa HG) (aa HP) (aa UK)
   rw [hfin] at hcv
   have hc0:=hcv wr rfl
   have HBF:=hide ((aa IY).trans (hbel.mono (aa IY).size))
   clear hfin hcv HG HP UK HGT ML HE HN hown hbel
   go_wp2_with fail
   go_ret
   exact ⟨rfl,aa HBF⟩
end Go.Proofs.YtfolanohokflkaaGreatDoor
namespace Go.Proofs.YtfolanohokflkaaGreatDoor
open Go.RowKit
theorem MN (w:World) (l:ah) (hl:l.length<=1000) (hg:∀ p∈l,jN p):∃ cap w1,(convert 61 107 (.string (encS l))).run Tryz.prog w=.ok (.slice (some ⟨w.heap.size,0,none⟩) (l.length*2) cap) w1/\Below w.heap.size w w1/\w.heap.size<w1.heap.size/\∀ (j:Nat) (u:Value),(fJ (bI l))[j]? = some u->w1.cell? ⟨w.heap.size,j,none⟩=some u:=by
 have hr:=uW hg
 have hfl:=fZ l
 have hsz:(Conv.runesFrom (encS l) (encS l).size 0 #[]).size=l.length*2:=by rw [hr,List.size_toArray,List.length_map,hfl]
 have h:=run_runes_of_string (P:=Tryz.prog) w 61 107 21 (encS l) Tryz.underlying61 Tryz.underlying107 Tryz.underlying21 (by rw [hsz];omega)
 rw [hsz,hr] at h
 refine ⟨_,_,h,?_,by rw [World.size_alloc];exact Nat.lt_succ_self _,fun j u hu=>?_⟩
 ·have hb:=(Below.refl w.heap.size w).alloc (Nat.le_refl _) (.cells (((bI l).map (Value.int .i32)).toArray++Array.replicate (grownCap w (l.length*2) 0 21 - l.length*2) (.int .i32 0)) 21)
  exact ⟨hb.os,hb.tape,hb.output,hb.size,hb.block⟩
 ·have hn:=heap_alloc_new w.drew (.cells (((bI l).map (Value.int .i32)).toArray++Array.replicate (grownCap w (l.length*2) 0 21 - l.length*2) (.int .i32 0)) 21)
  have hn':(w.drew.alloc (.cells (((bI l).map (Value.int .i32)).toArray++Array.replicate (grownCap w (l.length*2) 0 21 - l.length*2) (.int .i32 0)) 21)).heap[w.heap.size]? = _:=hn
  have hj:j<(fJ (bI l)).length:=by
   rcases Nat.lt_or_ge j (fJ (bI l)).length with h | h
   ·exact h
   ·rw [List.getElem?_eq_none h] at hu;cases hu
  simp only [World.cell?,hn']
  simp only [Option.isSome_none,Bool.false_eq_true,if_false]
  rw [Array.getElem?_append_left (by simpa [fJ] using hj)]
  simpa [fJ] using hu
theorem UL (w:World) (o:Obj):(w.alloc o).drew.heap[w.heap.size]? = some o:=heap_alloc_new w o
theorem UM (w:World) (o:Obj):(w.alloc o).drew.heap.size=w.heap.size+1:=by
 show (w.alloc o).heap.size=_
 simp
theorem IZ {w1 w':World} {g cap k:Nat} {l:ah} (hk:k<l.length) (ho:Hid (w'.ownsRow w1.heap.size 248 2 (.slice (some ⟨g,0,none⟩) (k+1) cap) (k+1) (aJ (l.take k)++[.int .i32 l[k].1,.int .i32 l[k].2]))) :
  w'.ownsRow w1.heap.size 248 2 (.slice (some ⟨g,0,none⟩) (k+1) cap) (k+1) (aJ (l.take (k+1))):=by
 rw [List.take_succ_eq_append_getElem hk,iU];exact ho
theorem Ev {w1 wr w3:World} {o:Obj} {v:Value} {n:Nat} {xs:List Value} (hb:Hid (Below w1.heap.size w1 wr)) (ho:Hid (wr.ownsRow w1.heap.size 248 2 v n xs)) (hg:Hid ((wr.alloc o).drew.grownBy w3 v.ownBlock)):Hid (Below w1.heap.size w1 w3):=by
 have h:=aa hg
 exact ji (aa hb) (aa ho) (show (wr.alloc o).grownBy w3 v.ownBlock from ⟨h.os,h.tape,h.output,h.size,h.block⟩) (aa hb).size
theorem flat_get:∀ (l:ah) (k:Nat) (h:k<l.length),(fJ (bI l))[k*2]? = some (.int .i32 l[k].1)/\(fJ (bI l))[k*2+1]? = some (.int .i32 l[k].2)
 | [],_,h=>by simp at h
 | x::l,0,_=>⟨rfl,rfl⟩
 | x::l,i+1,h=>by
  have ih:=flat_get l i (by simpa using h)
  rw [show (i+1)*2=i*2+1+1 from by omega]
  simpa [bI,fJ] using ih
set_option maxRecDepth 100000 in
set_option maxHeartbeats 4000000 in
theorem jZ (w:World) (l:ah) (hl:l.length<=1000) (hg:∀ p∈l,jN p) :
  Calls Tryz.prog 161 #[.string (encS l)] w fun e w'=>∃ v,e=.returned v/\w'.ownsRow w.heap.size 248 2 v l.length (aJ l)/\Below w.heap.size w w':=by
 obtain ⟨i0,hi0,hz0,hz1,hz2⟩:=info_parts pI
 obtain ⟨cap,w1,aa0,hb1,hlt1,hc1⟩:=MN w l hl hg
 have HB1:=hide hb1
 have Ma:=hide hc1
 clear hb1 hc1
 generalize encS l=s at aa0
 obtain ⟨N,hN⟩:∃ N,l.length*2=N:=⟨_,rfl⟩
 rw [hN] at aa0
 have hN2:N<=2000:=by omega
 have Mc:=hide hN
 clear hN
 go_enter Tryz.func161,Tryz.ntmps161
 go_wp2_with fail
 go_loopw [4,5] (fun v i wr=>∃ (k m:Nat) (av:Option Addr) (cv:Nat),k<=l.length/\i=.int .i64 m/\v=.slice av k cv/\Hid (k*2=m)/\Hid (wr.ownsRow w1.heap.size 248 2 (.slice av k cv) k (aJ (l.take k)))/\Hid (Below w1.heap.size w1 wr)) (fun _ i _=>N - (intOf i).toNat)
 case atStart=>exact ⟨0,0,none,0,Nat.zero_le _,rfl,rfl,rfl,World.ownsRow_nil _ _ _ _,Below.refl _ _⟩
 case round=>
  obtain ⟨k,m,av,cv,hk,rfl,rfl,HM,HO,HB⟩:=hrel
  have hmm:=aa HM
  have hnn:=aa Mc
  by_cases hlt:k<l.length
  ·have hf:=flat_get l k hlt
   have c1:=((aa HB).cell (p:=⟨w.heap.size,k*2,none⟩) hlt1).trans (aa Ma _ _ hf.1)
   have c2:=((aa HB).cell (p:=⟨w.heap.size,k*2+1,none⟩) hlt1).trans (aa Ma _ _ hf.2)
   clear hf Ma
   have HX:=HO
   have hown:=aa HO
   have hsz:=(aa HB).size
   clear HO
   generalize hlo:l[k].1=lo at c1
   generalize hhi:l[k].2=hi at c2
   rw [hmm] at c1 c2
   have hmN:m+1<N:=by omega
   have YX:(m:Int)+1<(N:Int):=by omega
   have hmJ:(m:Int)<(N:Int):=by omega
   have hm0:(0:Int)<=(m:Int)+1:=by omega
   have hwr:IntKind.i64.wrap ((m:Int)+1)=((m+1:Nat):Int):=by simp [IntKind.wrap,IntKind.bits,IntKind.signed];omega
   clear hmm hnn
   go_wp2_with fail
   go_region_law
    ((refine step_append_lies _ (by rfl) _ _ _ (by rfl) w1.heap.size 248 i0 _ 2 8 Tryz.underlying237 hi0 hz0 hz1 hz2 rfl (by omega) (.slice av k cv) k (aJ (l.take k)) (by rfl) ((hown.alloc _).drew)
       ⟨wr.heap.size,0,none⟩ 1 1 [.int .i32 lo,.int .i32 hi] (by rfl) (by rfl) (World.news_of_block (cs:=#[.int .i32 lo,.int .i32 hi]) (t:=248) (fr:=(0,0)) (UL wr _)) (by intro u hu;simp at hu;rcases hu with rfl | rfl<;>rfl)
       (by omega) (by unfold maxLen;omega) (by omega) (by show w1.heap.size<=(wr.alloc _).heap.size;simp;omega) (wr.heap.size+1) (UM wr _) ?_;intro gg cap2 w3 hown1 hgrow hat hlt3))
   all_goals have HG:=hide hgrow
   all_goals have zI:=hide hown1
   all_goals clear hgrow hown1 hown
   all_goals go_wp2_with fail
   all_goals go_roundw
   case rel=>exact ⟨k+1,m+2,some ⟨gg,0,none⟩,cap2,by omega,by go_num,rfl,(by show (k+1)*2=m+2;have:=aa HM;omega),IZ hlt (by rw [hlo,hhi];exact zI),Ev HB HX HG⟩
   case measure=>simp [intOf];omega
   case rel=>exact ⟨k+1,m+2,some ⟨gg,0,none⟩,cap2,by omega,by go_num,rfl,(by show (k+1)*2=m+2;have:=aa HM;omega),IZ hlt (by rw [hlo,hhi];exact zI),Ev HB HX HG⟩
   case measure=>simp [intOf];omega
  ·have hkl:k=l.length:=by omega
   have hmN:m=N:=by omega
   subst hmN
   subst hkl
   rw [List.take_length] at HO
   clear Ma hmm hnn
   go_wp2_with fail
   go_ret
   exact ⟨_,rfl,fB (aa HO) (aa HB1).size,(aa HB1).trans ((aa HB).mono (aa HB1).size)⟩
end Go.Proofs.YtfolanohokflkaaGreatDoor
namespace Go.Proofs.YtfolanohokflkaaGreatDoor
open Go.RowKit
theorem UN {ops:Array Oper} {rest:List Oper} {o:Oper} {a:Act} {Q:Exit->Act->World->Prop} (w wr:World) (zs:List (Int×Int)) (v:Value) (lo hi:Int) (s x:Operand) (hg:o.guard=none)
  (hop:o.op=.call { callee:=.builtin .append,args:=#[s,x],argTypes:=#[237,237] }) (hs:a.eval s=v) (hx:a.eval x=.slice (some ⟨wr.heap.size,0,none⟩) 1 1)
  (ho:Hid (wr.ownsRow w.heap.size 248 2 v zs.length (aJ zs))) (hb:Hid (Below w.heap.size w wr)) (hl:zs.length<=2000000)
  (K:∀ ao cap w',Hid (w'.ownsRow w.heap.size 248 2 (.slice ao (zs.length+1) cap) (zs++[(lo,hi)]).length (aJ (zs++[(lo,hi)])))->Hid (Below w.heap.size w w')->Hid ((wr.alloc (.cells #[.int .i32 lo,.int .i32 hi] 248)).grownBy w' v.ownBlock)->wpList Tryz.prog ops Q rest (a.put o.dst (.slice ao (zs.length+1) cap)) w') :
  wpList Tryz.prog ops Q (o::rest) a (wr.alloc (.cells #[.int .i32 lo,.int .i32 hi] 248)):=by
 obtain ⟨i0,hi0,hz0,hz1,hz2⟩:=info_parts pI
 have hb':Below w.heap.size w wr:=hb
 have:=hb'.size
 refine wpList_append_own _ hg s x 237 hop w.heap.size 248 i0 (.agg #[.int .i32 0,.int .i32 0]) 2 8 Tryz.underlying237 hi0 hz0 hz1 hz2 rfl (by decide) _ _ _ hs ((aa ho).alloc _) ⟨wr.heap.size,0,none⟩ 1 1 [.int .i32 lo,.int .i32 hi] hx rfl (bM wr [.int .i32 lo,.int .i32 hi] _) (by intro u hu;simp at hu;rcases hu with rfl | rfl<;>rfl) (by unfold maxLen;omega) (by omega) (by simp;omega) ?_
 intro v' w' h1 h2 _
 have h3:w'.ownsRow w.heap.size 248 2 v' (zs++[(lo,hi)]).length (aJ (zs++[(lo,hi)])):=by
  rw [iU,List.length_append];exact h1
 obtain ⟨ao,cap,rfl,-⟩:=aO h3
 have e:(zs++[(lo,hi)]).length=zs.length+1:=by simp
 rw [e] at h3 ⊢
 exact K ao cap w' (by rw [e];exact h3) (ji hb ho h2 hb'.size) h2
theorem nJ {w':World} {v:Value} {zs:List (Int×Int)} {base:Nat} (ho:w'.ownsRow base 248 2 v zs.length (aJ zs)):vT w'.heap.size w' v zs:=by
 rcases ho.2 with ⟨rfl,hz⟩ | ⟨g,cap,cur,rfl,hb,hg,h1,h2,h3,h4⟩
 ·exact .inl ⟨rfl,List.eq_nil_of_length_eq_zero hz⟩
 ·refine .inr ⟨g,0,cap,rfl,(Array.getElem?_eq_some_iff.1 hg).1,fun j hj=>?_⟩
  have hc:=ho.cells (g:=g) rfl
  have hgt:=iZ zs j hj
  have e0:(⟨g,0,none⟩:Addr).add (j*2)=⟨g,0+j*2,none⟩:=by unfold Addr.add;split<;>simp_all
  have e1:(⟨g,0,none⟩:Addr).add (j*2+1)=⟨g,0+j*2+1,none⟩:=by unfold Addr.add;split<;>simp_all
  have c0:=hc _ _ hgt.1
  have c1:=hc _ _ hgt.2
  rw [e0] at c0
  rw [e1] at c1
  exact ⟨c0,c1⟩
def rQ (w1 wr:World) (v:Value) (zs:ah):Prop:=wr.ownsRow w1.heap.size 248 2 v zs.length (aJ zs)/\Below w1.heap.size w1 wr
theorem rQ.alloc {w1 wr:World} {v:Value} {zs:ah} (h:rQ w1 wr v zs) (o:Obj):rQ w1 (wr.alloc o) v zs:=⟨h.1.alloc o,h.2.alloc h.2.size o⟩
theorem aa1 {l:ah} (h:Tidy l):∀ k,k<=l.length->0<=(aU (l.take k)).2/\(aU (l.take k)).2<=1114112/\(aU (l.take k)).1.length<=k
 | 0,_=>by simp [aU]
 | k+1,hk=>by
  have ih:=aa1 h k (by omega)
  have hg:=bD h l[k] (List.getElem_mem (by omega))
  have s2:=aC.1 hg.2.1
  rw [List.take_succ_eq_append_getElem (by omega),vY]
  simp only [h_]
  refine ⟨by unfold kJ;split<;>omega,by unfold kJ;split<;>omega,?_⟩
  rw [List.length_append]
  split<;>simp<;>omega
theorem I1 {wq w3:World} {o:Obj} {row:Option Nat} {b j:Nat} {u:Value} (hg:Hid ((wq.alloc o).grownBy w3 row)) (hlt:b<wq.heap.size) (hne:some b≠row) (hc:wq.cell? ⟨b,j,none⟩=some u):w3.cell? ⟨b,j,none⟩=some u:=by
 have h1:w3.heap[b]? = wq.heap[b]? := ((aa hg).block b (by simp;omega) hne).trans (Below.heap_alloc wq o b hlt)
 rw [World.cell?_of_block h1];exact hc
theorem abD {l:ah} {k n:Nat} {low lo hi:Int} (hr:Hid (aU (l.take (k+1))=h_ (aU (l.take k)) (lo,hi))) (hl:Hid (low=(aU (l.take k)).2)) (hn:Hid (n=(aU (l.take k)).1.length)) (h:¬ low<lo):Hid (n=(aU (l.take (k+1))).1.length):=by
 show n=_
 rw [aa hr,h_,<-aa hl,if_neg h,List.append_nil];exact aa hn
theorem adi {w1 wr:World} {v:Value} {l:ah} {k:Nat} {low lo hi:Int} (hr:Hid (aU (l.take (k+1))=h_ (aU (l.take k)) (lo,hi))) (hl:Hid (low=(aU (l.take k)).2)) (h:¬ low<lo) (hg:Hid (rQ w1 wr v (aU (l.take k)).1)):Hid (rQ w1 wr v (aU (l.take (k+1))).1):=by
 rw [aa hr,h_,<-aa hl,if_neg h,List.append_nil];exact hg
theorem abE {l:ah} {k:Nat} {low lo hi:Int} (hr:Hid (aU (l.take (k+1))=h_ (aU (l.take k)) (lo,hi))) (hl:Hid (low=(aU (l.take k)).2)) (h:low<lo):Hid ((aU (l.take k)).1.length+1=(aU (l.take (k+1))).1.length):=by
 show _=_
 rw [aa hr,h_,<-aa hl,if_pos h,List.length_append];rfl
theorem adj {w1 w3:World} {ao:Option Addr} {cap:Nat} {l:ah} {k:Nat} {low lo hi:Int} (hr:Hid (aU (l.take (k+1))=h_ (aU (l.take k)) (lo,hi))) (hl:Hid (low=(aU (l.take k)).2)) (h:low<lo)
  (ho:Hid (w3.ownsRow w1.heap.size 248 2 (.slice ao ((aU (l.take k)).1.length+1) cap) ((aU (l.take k)).1++[(low,zH lo)]).length (aJ ((aU (l.take k)).1++[(low,zH lo)])))) (hb:Hid (Below w1.heap.size w1 w3)) :
  Hid (rQ w1 w3 (.slice ao ((aU (l.take k)).1.length+1) cap) (aU (l.take (k+1))).1):=by
 rw [aa hr,h_,<-aa hl,if_pos h];exact ⟨ho,hb⟩
theorem Rw {w3 w1:World} {ao:Option Addr} {cap:Nat} {zs:ah} {p:Int×Int} (h:Hid (w3.ownsRow w1.heap.size 248 2 (.slice ao (zs.length+1) cap) (zs++[p]).length (aJ (zs++[p])))):w3.ownsRow w1.heap.size 248 2 (.slice ao (zs.length+1) cap) (zs++[p]).length (aJ (zs++[p])):=h
set_option maxRecDepth 100000 in
set_option maxHeartbeats 4000000 in
theorem nK (w:World) (l:ah) (hl:l.length<=900) (ht:Tidy l) :
  Calls Tryz.prog 156 #[.string (encS l)] w fun e w'=>e=.returned (.string (encS (fU l)))/\Below w.heap.size w w':=by
 have hP:=jZ w l (by omega) (bD ht)
 have HP:=hide hP
 have HT:=hide ht
 clear hP ht
 generalize encS l=s at HP
 go_enter Tryz.func156,Tryz.ntmps156
 go_wp2_with (go_at_call 161;refine (aa HP).mono ?_;clear HP;rintro e w1 ⟨v,rfl,hrow,hb⟩;have HB1:=hide hb;obtain ⟨av,cv,rfl,hvw⟩:=aO hrow;have ML:=hide hvw;clear hrow hb hvw)
 go_loopw [3,4,10] (fun v lw i wr=>∃ (k:Nat) (ag:Option Addr) (n cg:Nat) (low:Int),k<=l.length/\i=.int .i64 k/\lw=.int .i32 low/\v=.slice ag n cg/\Hid (low=(aU (l.take k)).2)/\Hid (n=(aU (l.take k)).1.length)/\Hid (rQ w1 wr (.slice ag n cg) (aU (l.take k)).1)) (fun _ _ i _=>l.length - (intOf i).toNat)
 case atStart=>exact ⟨0,none,0,0,0,Nat.zero_le _,rfl,rfl,rfl,rfl,rfl,⟨World.ownsRow_nil _ _ _ _,Below.refl _ _⟩⟩
 case round=>
  obtain ⟨k,ag,n,cg,low,hk,rfl,rfl,rfl,HL,HN,HG⟩:=hrel
  have hrb:=aa1 (aa HT) k hk
  rw [<-aa HL] at hrb
  have aez:(aU (l.take k)).1.length<=2000:=by omega
  by_cases hlt:k<l.length
  ·obtain ⟨g,rfl,-,hg,hc,-⟩:=aa ML (by omega)
   have hget:=iZ l k hlt
   have c1:=hc (k*2) (by omega)
   have c2:=hc (k*2+1) (by omega)
   rw [hget.1,<-(aa HG).2.cell (p:=⟨g,k*2,none⟩) hg] at c1
   rw [hget.2,<-(aa HG).2.cell (p:=⟨g,k*2+1,none⟩) hg] at c2
   have hgp:=bD (aa HT) l[k] (List.getElem_mem hlt)
   have hrun:aU (l.take (k+1))=h_ (aU (l.take k)) l[k]:=by rw [List.take_succ_eq_append_getElem hlt,vY]
   have MO:=hide hrun
   clear hget hc hrun ML
   generalize hx1:l[k].1=lo at c1
   generalize hx2:l[k].2=hi at c2
   have hpe:l[k]=(lo,hi):=Prod.ext hx1 hx2
   rw [hpe] at MO hgp
   have s1:=aC.1 hgp.1
   have s2:=aC.1 hgp.2.1
   simp only [] at s1 s2
   clear hx1 hx2 hpe hgp
   have HG':=hide ((aa HG).alloc (.cells #[.int .i32 lo,.int .i32 hi] 248))
   have q0:=Gj wr lo hi 0
   have q1:=MK wr lo hi 0
   have hA:∀ W:World,Calls Tryz.prog 232 #[.int .i32 hi] W fun e w'=>e=.returned (.int .i32 (kJ hi))/\w'=W:=fun W=>(xX hi W (by omega) (by omega)).mono fun e w' hh=>⟨hh.1,hh.2.symm⟩
   have HA:=hide hA
   have I4:=HG
   clear hA HG
   by_cases hlow:low<lo
   ·have hBl:∀ W:World,Calls Tryz.prog 231 #[.int .i32 lo] W fun e w'=>e=.returned (.int .i32 (zH lo))/\w'=W:=fun W=>(Rt lo W (by omega) (by omega)).mono fun e w' hh=>⟨hh.1,hh.2.symm⟩
    have HBl:=hide hBl
    clear hBl
    have hne:some wr.heap.size≠(Value.slice ag n cg).ownBlock:=fun e=>by have:=((aa I4).1.lt _ e.symm).2;omega
    have hlt2:wr.heap.size<(wr.alloc (.cells #[.int .i32 lo,.int .i32 hi] 248)).heap.size:=by simp
    have q1':(wr.alloc (.cells #[.int .i32 lo,.int .i32 hi] 248)).cell? ⟨wr.heap.size,1,none⟩=some (.int .i32 hi):=q1
    have HG2:Hid (rQ w1 (wr.alloc (.cells #[.int .i32 lo,.int .i32 hi] 248)) (.slice ag n cg) (aU (l.take k)).1):=HG'
    clear HG' q1 q0 I4
    go_wp2_with (first
     | (go_at_call 231;refine (aa HBl _).mono ?_;clear HBl;rintro e w' ⟨rfl,rfl⟩;generalize wr.alloc (.cells #[.int .i32 lo,.int .i32 hi] 248)=wq at *)
     | (at_builtin;refine UN w1 wq (aU (l.take k)).1 _ low (zH lo) (.tmp 18) (.tmp 24) rfl rfl rfl rfl (aa HG2).1 (aa HG2).2 (by omega) ?_;intro TY oU w3 qw HB3 HGR;have q3:w3.cell? ⟨wr.heap.size,1,none⟩=some (.int .i32 hi):=I1 HGR hlt2 hne q1';clear q1' HG2 HGR)
     | (go_at_call 232;refine (aa HA _).mono ?_;rintro e w' ⟨rfl,rfl⟩))
    go_roundw
    case rel=>exact ⟨k+1,TY,_,oU,_,by omega,by go_num,rfl,rfl,(by show _=_;rw [aa MO];rfl),abE MO HL hlow,adj MO HL hlow qw HB3⟩
    case measure=>simp [intOf];omega
   ·go_wp2_with (go_at_call 232;refine (aa HA _).mono ?_;rintro e w' ⟨rfl,rfl⟩)
    go_roundw
    case rel=>exact ⟨k+1,ag,n,cg,_,by omega,by go_num,rfl,rfl,(by show _=_;rw [aa MO];rfl),abD MO HL HN (by omega),adi MO HL (by omega) HG'⟩
    case measure=>simp [intOf];omega
  ·have hkl:k=l.length:=by omega
   subst hkl
   rw [List.take_length] at HL HN HG aez
   have hall:=IV l
   have hgd:=Eu (aa HT)
   have hgl:=IU l 0
   have Gl:=ME (aa HT)
   have hb1:=(aa HB1)
   by_cases hlow:low<=1114111
   ·rw [if_pos (by rw [<-aa HL];exact hlow),<-aa HL] at hall
    rw [hall] at hgd hgl Gl
    have HGD:=hide hgd
    have abF:=hide Gl
    have HGL:=hide hgl
    clear hgd Gl hall hb1 hgl ML HT
    go_wp2_with (first
     | (at_builtin;refine UN w1 wr (aU l).1 _ low 1114111 (.tmp 32) (.tmp 35) rfl rfl rfl rfl (aa HG).1 (aa HG).2 (by omega) ?_;intro TY oU w3 qw HB3 _)
     | (go_at_call 160;refine (pR w3 _ ((aU l).1++[(low,1114111)]) (by have:=aa HGL;omega) (nJ (Rw qw)) (aa HGD)).mono ?_;rintro e w4 ⟨rfl,hb4⟩;have kL:=hide hb4;clear hb4))
    go_ret
    exact ⟨by rw [<-aa abF];rfl,((aa HB1).trans ((aa HB3).mono (aa HB1).size)).trans ((aa kL).mono (Nat.le_trans (aa HB1).size (aa HB3).size))⟩
   ·rw [if_neg (by rw [<-aa HL];exact hlow),List.append_nil] at hall
    rw [hall] at hgd hgl Gl
    have HGD:=hide hgd
    have abF:=hide Gl
    have HGL:=hide hgl
    have adk:=nJ (aa HG).1
    have HPC:=hide adk
    clear hgd Gl hall hb1 hgl ML HT adk
    go_wp2_with (go_at_call 160;refine (pR wr _ (aU l).1 (by have:=aa HGL;omega) (aa HPC) (aa HGD)).mono ?_;rintro e w4 ⟨rfl,hb4⟩;have kL:=hide hb4;clear hb4)
    go_ret
    exact ⟨by rw [<-aa abF];rfl,((aa HB1).trans ((aa HG).2.mono (aa HB1).size)).trans ((aa kL).mono (Nat.le_trans (aa HB1).size (aa HG).2.size))⟩
end Go.Proofs.YtfolanohokflkaaGreatDoor
