import Derived.Test.YtfolanohokflkaaGreatDoorSpA
import Derived.Test.YtfolanohokflkaaGreatDoorSoN
import Derived.Test.YtfolanohokflkaaGreatDoorClsB
import Derived.WalkKit
import Derived.WalkSpells
import Derived.WalkLawsBesides
import Derived.WalkMore
import Derived.Deep.QuietTactic
import Derived.BigQuiet
import Derived.Shelf.SlicesE.DeleteFunc
import Derived.Test.YtfolanohokflkaaGreatDoorProg
namespace Go.Proofs.YtfolanohokflkaaGreatDoor
open Go.RowKit
open Classical in
noncomputable def gK (T:List Te) (k:Bool) (n:Nat):List Nat:=if h:∃ l,ko T k n l then h.choose else []
theorem YE {T:List Te} {k:Bool} {n:Nat} {l:List Nat} (h:ko T k n l):gK T k n=l:=by
 unfold gK
 rw [dif_pos ⟨l,h⟩]
 exact (Exists.choose_spec (⟨l,h⟩:∃ l,ko T k n l)).uniq h
theorem zX {T:List Te} {k:Bool} {n:Nat} {t:Tm} (h:Rp T n t):ko T k n (gK T k n):=by
 obtain ⟨l,hl⟩:=ko.rp (k:=k) h
 rw [YE hl];exact hl
theorem yj {T:List Te} {k:Bool}:∀ {l:List Nat},(∀ n∈l,ko T k n (gK T k n))->JX T k l (l.flatMap (gK T k))
 | [],_=>.nil
 | n::l,h=>by
  rw [List.flatMap_cons]
  exact .cons (h n (List.mem_cons_self ..)) (yj fun m hm=>h m (List.mem_cons_of_mem _ hm))
def Xn (T:List Te) (m:Nat):ByteArray:=match T[m]? with
 | some x=>x.1.st
 | none=>⟨#[]⟩
theorem J8 {B g:Nat} {w wr w1:World} (hb:Below B w wr) (hg:wr.grownBy w1 (some g)) (hB:B<=g) (hs:B<=wr.heap.size):Below B w w1:=
 ⟨hg.os.trans hb.os,hg.tape.trans hb.tape,hg.output.trans hb.output,Nat.le_trans hb.size hg.size,fun k hk=>(hg.block k (by omega) (fun e=>by injection e with e;omega)).trans (hb.block k hk)⟩
theorem RF {ops:Array Oper} {rest:List Oper} {o:Oper} {a:Act} {Q:Exit->Act->World->Prop} (B B':Nat) (w wr:World) (zs ys:List Int) (v y:Value) (s x:Operand) (hg:o.guard=none)
  (hop:o.op=.call { callee:=.builtin .append,args:=#[s,x],argTypes:=#[31,31] }) (hs:a.eval s=v) (hx:a.eval x=y)
  (ho:Hid (wr.ownsRow B 3 1 v zs.length (ints zs))) (ho2:Hid (wr.ownsRow B' 3 1 y ys.length (ints ys))) (hb:Hid (Below B w wr)) (hB:B<=wr.heap.size) (hl:zs.length+ys.length<=1000000000000)
  (K:∀ ao cap w',Hid (w'.ownsRow B 3 1 (.slice ao (zs++ys).length cap) (zs++ys).length (ints (zs++ys)))->Hid (Below B w w')->wpList Tryz.prog ops Q rest (a.put o.dst (.slice ao (zs++ys).length cap)) w') :
  wpList Tryz.prog ops Q (o::rest) a wr:=by
 obtain ⟨i0,hi,hz0,hz1,hz2⟩:=info_parts gU
 have h1:∀ u∈ints ys,u.oneCell'=true:=by intro u hu;obtain ⟨z,_,rfl⟩:=List.mem_map.1 hu;rfl
 refine Jo hg s x 31 hop B B' 3 i0 (.int .i64 0) 1 8 Tryz.underlying31 hi hz0 hz1 hz2 rfl (by decide) v y _ _ _ _ hs hx (aa ho) (aa ho2) h1 (by unfold maxLen;omega) (by omega) hB ?_
 intro v' w' h2 h3
 have h4:w'.ownsRow B 3 1 v' (zs++ys).length (ints (zs++ys)):=by
  rw [show ints (zs++ys)=ints zs++ints ys from by simp [ints],List.length_append];exact h2
 obtain ⟨ao,cap,rfl,-⟩:=aQ h4
 exact K ao cap w' h4 (below_grown (aa hb) (aa ho) h3 hB)
theorem U6 {l:List Nat} (x:Int) (h:x∈az l):0<=x:=by
 unfold az at h
 obtain ⟨m,_,rfl⟩:=List.mem_map.1 h
 simp
theorem YF {c:List Int} (h:∀ x∈c,0<=x):∃ L:List Nat,az L=c:=by
 refine ⟨c.map Int.toNat,?_⟩
 unfold az
 rw [List.map_map]
 have:∀ x∈c,((fun n:Nat=>Int.ofNat n) ∘ Int.toNat) x=x:=fun x hx=>by
  have:=h x hx
  simp only [Function.comp,Int.ofNat_eq_natCast]
  omega
 rw [List.map_congr_left this];simp
theorem rY {l:List Nat} {m:Nat}:(m:Int)∈az l↔m∈l:=by
 unfold az
 simp only [List.mem_map,Int.ofNat_eq_natCast]
 constructor
 ·rintro ⟨a,ha,e⟩
  have:a=m:=by omega
  subst this;exact ha
 ·intro h;exact ⟨m,h,rfl⟩
theorem E_ (L0:List Nat):∃ L:List Nat,az L=Lib.compact (rX (az L0))/\L.Pairwise (· < ·)/\∀ m,m∈L↔m∈L0:=by
 have hcs:=mP _ (Cq (az L0))
 obtain ⟨L,MV⟩:=YF (c:=Lib.compact (rX (az L0))) fun x hx=>U6 x (yg.1 ((hcs.2.1 x).1 hx))
 refine ⟨L,MV,?_,fun m=>?_⟩
 ·have:=hcs.1
  rw [<-MV] at this
  unfold az at this
  rw [List.pairwise_map] at this
  exact this.imp fun q=>by simpa using q
 ·rw [<-rY,MV,hcs.2.1,yg,rY]
section
variable {w:World} {t:TB} {T:List Te} {S C:List (Value×Value)}
set_option maxRecDepth 100000 in
set_option maxHeartbeats 8000000 in
theorem yS {k:Bool} {l:List Nat} {g0 cap0:Nat} (h:Hid (aZ w t T (au T) S C)) (hw:uz T) (hsp:∀ n∈l,ko T k n (gK T k n)/\(gK T k n).length<=1000000) (hne:l≠[]) (hln:l.length<=1000000)
  (hc:∀ j x,(az l)[j]? = some x->w.cell? ⟨g0,j,none⟩=some (.int .i64 x)) (hg0:g0<w.heap.size) (hL0:(l.flatMap (gK T k)).length<=100000000000) (hmem:∀ m∈l.flatMap (gK T k),m<T.length) {L:List Nat} (MV:az L=Lib.compact (rX (az (l.flatMap (gK T k))))) :
  Calls Tryz.prog 110 #[.pointer (some ⟨t.tb,0,none⟩),.int .i64 (kk k),.slice (some ⟨g0,0,none⟩) l.length cap0] w fun e w'=>∃ (a1 a2:Option Addr) (c1 c2:Nat),e=.returned (.tuple #[.slice a1 (L.filter fun m=>!aX T m).length c1,.slice a2 (L.filter fun m=>aX T m).length c2])/\Hid (w'.ownsRow w.heap.size 3 1 (.slice a1 (L.filter fun m=>!aX T m).length c1) (L.filter fun m=>!aX T m).length (ints (az (L.filter fun m=>!aX T m))))/\Hid (w'.ownsRow w.heap.size 61 1 (.slice a2 (L.filter fun m=>aX T m).length c2) (L.filter fun m=>aX T m).length (strs ((L.filter fun m=>aX T m).map (Xn T))))/\Hid (Below w.heap.size w w'):=by
 have HSP:=hide hsp
 have HLE:=hide MV
 have HME:=hide hmem
 have zu:=hide hc
 have Xo:=hide hL0
 have RG:Hid (∀ k',k'<=l.length->((l.take k').flatMap (gK T k)).length<=100000000000):=fun k' _=>by
  have e:l=l.take k'++l.drop k':=(List.take_append_drop k' l).symm
  have:=aa Xo
  rw [e,List.flatMap_append,List.length_append] at this
  omega
 have hl0:0<l.length:=by cases l with
  | nil=>exact absurd rfl hne
  | cons _ _=>simp
 have HNE:Hid (l.flatMap (gK T k)≠[]):=by
  obtain ⟨a,r,rfl⟩:∃ a r,l=a::r:=by cases l with
   | nil=>exact absurd rfl hne
   | cons a r=>exact ⟨a,r,rfl⟩
  have:=(hsp a (List.mem_cons_self ..)).1.ne
  intro e
  rw [List.flatMap_cons] at e
  exact this (List.append_eq_nil_iff.1 e).1
 clear hsp hc hL0 hne hmem MV
 go_enter Tryz.func110,Tryz.ntmps110
 go_wp2_with fail
 go_loopw [8,16] (fun v i wr=>∃ (k':Nat) (ao:Option Addr) (cap:Nat),k'<=l.length/\i=.int .i64 (k':Int)/\v=.slice ao (az ((l.take k').flatMap (gK T k))).length cap/\Hid (wr.ownsRow w.heap.size 3 1 (.slice ao (az ((l.take k').flatMap (gK T k))).length cap) (az ((l.take k').flatMap (gK T k))).length (ints (az ((l.take k').flatMap (gK T k)))))/\Hid (Below w.heap.size w wr)) (fun _ i _=>l.length - (intOf i).toNat)
 case atStart=>exact ⟨0,none,0,Nat.zero_le _,rfl,rfl,World.ownsRow_nil _ _ _ _,Below.refl _ _⟩
 case round=>
  obtain ⟨k',ao,cap,hk',rfl,rfl,HO,HB⟩:=hrel
  by_cases hlt:k'<l.length
  ·have hx:(az l)[k']? = some ((l[k']:Nat):Int):=by simp [az,hlt]
   have cx:=aa zu k' _ hx
   rw [<-(aa HB).cell (p:=⟨g0,k',none⟩) hg0] at cx
   have hsp:=aa HSP l[k'] (List.getElem_mem _)
   have HT:=aZ.below h (aa HB)
   have pV:=hide (Ck HT hw hsp.1 hsp.2)
   have hsl:=hsp.2
   have Xm:Hid ((l.take (k'+1)).flatMap (gK T k)=(l.take k').flatMap (gK T k)++gK T k l[k']):=by
    show _=_
    rw [List.take_succ_eq_append_getElem hlt,List.flatMap_append];simp
   have hpl:=aa RG k' hk'
   generalize hq:(l.take k').flatMap (gK T k)=pre at *
   generalize hsn:gK T k l[k']=sn at *
   generalize hlk:l[k']=lk at *
   have SL:(k':Int)<(l.length:Int):=by omega
   clear hx hsp HT
   have hws:w.heap.size<=wr.heap.size:=(aa HB).size
   go_wp2_with (first
    | (go_at_call 153;refine (aa pV).mono ?_;clear pV;rintro e w2 ⟨g2,cap2,rfl,jl,HB2⟩;have HO':=hide (own_below (aa HO) (aa HB2) (Nat.le_refl _));have HB':=hide ((aa HB).trans ((aa HB2).mono hws));have hw2:w.heap.size<=w2.heap.size:=Nat.le_trans hws (aa HB2).size;have HO2':Hid (w2.ownsRow wr.heap.size 3 1 (.slice (some ⟨g2,0,none⟩) sn.length cap2) (az sn).length (ints (az sn))):=(by show World.ownsRow _ _ _ _ _ _ _;rw [aO];exact jl))
    | (at_builtin;refine RF w.heap.size wr.heap.size w w2 (az pre) (az sn) _ _ (.tmp 20) (.tmp 24) rfl rfl rfl rfl HO' HO2' HB' hw2 (by rw [aO,aO];omega) ?_;intro ao3 f_ w3 p8 HB3))
   go_roundw
   case rel=>
    have e2:az pre++az sn=az ((l.take (k'+1)).flatMap (gK T k)):=by rw [aa Xm,ig]
    rw [e2] at p8
    exact ⟨k'+1,ao3,f_,by omega,by go_num,by rw [<-e2,List.length_append],p8,HB3⟩
   case measure=>simp [intOf];omega
  ·obtain rfl:k'=l.length:=by omega
   rw [List.take_length] at HO ⊢
   clear RG
   generalize acE:l.flatMap (gK T k)=L0 at *
   have aec:=hide acE
   clear acE
   obtain ⟨ao',cap',e',hv⟩:=aQ (aa HO)
   have hL0:0<(az L0).length:=by
    rw [aO]
    cases L0 with
    | nil=>exact absurd rfl (aa HNE)
    | cons _ _=>simp
   injection e' with e1 e2 e3
   subst e1
   subst e3
   obtain ⟨g,rfl,hgb,Ry,-,-⟩:=hv hL0
   have hfl:(az L0).length<=1000000000000:=by have:=aa Xo;rw [aO];omega
   have fF:=hide (RD wr g (az L0).length cap (az L0) rfl hfl (eH (aa HO) (Nat.zero_le _)))
   have Ls:=hide (fun w2 (ho:w2.ownsRow 0 3 1 (.slice (some ⟨g,0,none⟩) (az L0).length cap) (az L0).length (ints (rX (az L0))))=>GJ w2 g (az L0).length cap (rX (az L0)) (yh _) hfl ho (Nat.le_trans (mP _ (Cq _)).2.2 (by rw [yh];exact Nat.le_refl _)))
   have hcs:=mP _ (Cq (az L0))
   have MV:=aa HLE
   have OX:∀ m,m∈L↔m∈L0:=fun m=>by
    rw [<-rY,MV,hcs.2.1,yg,rY]
   have HLM:=hide OX
   have aad:L.length<=100000000000:=by
    have:=hcs.2.2
    rw [<-MV,yh,aO,aO] at this
    have h2:=aa Xo
    omega
   rw [<-MV] at Ls
   clear OX hcs MV
   have hws:w.heap.size<=wr.heap.size:=(aa HB).size
   go_wp2_with (first
    | (go_at_call 154;refine (aa fF).mono ?_;clear fF;rintro e w2 ⟨rfl,ho2,hg2⟩;have xh:=hide (aa Ls w2 ho2);clear Ls;have HB2:=hide (J8 (aa HB) hg2 hgb hws);clear ho2 hg2)
    | (go_at_call 155;refine (aa xh).mono ?_;clear xh;rintro e w3 ⟨rfl,ho3,hg3⟩;have p8:=hide ho3;have HB3:=hide (J8 (aa HB2) hg3 hgb (aa HB2).size);clear ho3 hg3))
   have HT3:=aZ.below h (aa HB3)
   have hL3:(az L).length=L.length:=aO L
   rw [hL3] at p8 ⊢
   have hw3:w.heap.size<=w3.heap.size:=(aa HB3).size
   have acF:g<w3.heap.size:=qm (by rw [<-aO L] at p8;exact aa p8)
   have HCX:Hid (∀ j x,(az L)[j]? = some x->w3.cell? ⟨g,j,none⟩=some (.int .i64 x)):=fun j x hj=>by
    obtain ⟨ao9,aed,e9,hv9⟩:=aQ (aa p8)
    have hjl:j<L.length:=by have:=(List.getElem?_eq_some_iff.1 hj).1;rwa [aO] at this
    injection e9 with e10
    obtain ⟨g9,e11,-,-,hc9,-⟩:=hv9 (by omega)
    rw [e11] at e10
    injection e10 with e10
    injection e10 with e10
    subst e10
    rw [hc9 j (by omega)]
    unfold ints
    rw [List.getElem?_map,hj];rfl
   have HK:Hid (∀ m∈L,m<T.length):=fun m hm=>aa HME m ((aa HLM m).1 hm)
   have hgo:w3.heap.size=w3.heap.size:=rfl
   clear HME HSP zu Xo HNE HO HB HB2 hgo hws hgb Ry
   go_loopw [6,7,32] (fun v1 v2 i wx=>∃ (k':Nat),k'<=L.length/\i=.int .i64 (k':Int)/\Hid (wx.ownsRow w3.heap.size 3 1 v1 ((L.take k').filter fun m=>!aX T m).length (ints (az ((L.take k').filter fun m=>!aX T m))))/\Hid (wx.ownsRow w3.heap.size 61 1 v2 ((L.take k').filter fun m=>aX T m).length (strs (((L.take k').filter fun m=>aX T m).map (Xn T))))/\Hid (Below w3.heap.size w3 wx)) (fun _ _ i _=>L.length - (intOf i).toNat)
   case atStart=>exact ⟨0,Nat.zero_le _,rfl,World.ownsRow_nil _ _ _ _,World.ownsRow_nil _ _ _ _,Below.refl _ _⟩
   case round=>
    obtain ⟨k',hk',rfl,HM,HST,YG⟩:=hrel
    have aee:w3.heap.size<=wr.heap.size:=(aa YG).size
    by_cases hlt:k'<L.length
    ·have hxL:(az L)[k']? = some ((L[k']:Nat):Int):=by simp [az,hlt]
     have cx:=aa HCX k' _ hxL
     rw [<-(aa YG).cell (p:=⟨g,k',none⟩) acF] at cx
     have U7:=aa HK L[k'] (List.getElem_mem _)
     have hTk:∀ p:Nat->Bool,(L.take (k'+1)).filter p=(L.take k').filter p++(if p L[k']=true then [L[k']] else []):=fun p=>by
      rw [List.take_succ_eq_append_getElem hlt,List.filter_append]
      cases hp:p L[k']<;>simp [hp]
     have Xm:=hide hTk
     have hl1:((L.take k').filter fun m=>!aX T m).length<=100000000000:=Nat.le_trans (List.length_filter_le _ _) (by rw [List.length_take];omega)
     have hl2:((L.take k').filter fun m=>aX T m).length<=100000000000:=Nat.le_trans (List.length_filter_le _ _) (by rw [List.length_take];omega)
     obtain ⟨x,hx⟩:∃ x,T[L[k']]? = some x:=⟨_,List.getElem?_eq_getElem U7⟩
     have HTx:=aZ.below HT3 (aa YG)
     obtain ⟨gt,q2,a0,a1,a2,a3,a4⟩:=(aa HTx).at hx
     have hsb:aX T L[k']=decide (x.1.kd=0):=by unfold aX;rw [hx]
     have hst:Xn T L[k']=x.1.st:=by unfold Xn;rw [hx]
     generalize L[k']=m at *
     have ZP:(m:Int)<(T.length:Int):=by omega
     have hm0:(0:Int)<=(m:Int):=by omega
     have SL:(k':Int)<(L.length:Int):=by omega
     clear hxL hTk hx HTx
     generalize x.1.kd=xk at *
     generalize x.1.st=xs at *
     generalize x.1.fi=xf at *
     generalize x.1.se=xe at *
     generalize x.2=xb at *
     obtain ⟨wm,hwm⟩:∃ wm,wr.alloc (.cells #[.int .i64 xk,.string xs,.int .i64 xf,.int .i64 xe,.bool xb] 161)=wm:=⟨_,rfl⟩
     have HBm:Hid (Below w3.heap.size w3 wm):=by rw [<-hwm];exact (aa YG).alloc (aa YG).size _
     have HMm:=hide ((aa HM).alloc (.cells #[.int .i64 xk,.string xs,.int .i64 xf,.int .i64 xe,.bool xb] 161))
     have HSm:=hide ((aa HST).alloc (.cells #[.int .i64 xk,.string xs,.int .i64 xf,.int .i64 xe,.bool xb] 161))
     rw [hwm] at HMm HSm
     have q0:wm.cell? ⟨wr.heap.size,0,none⟩=some (.int .i64 xk):=by rw [<-hwm];exact aB rfl 0 rfl
     have q1:wm.cell? ⟨wr.heap.size,1,none⟩=some (.string xs):=by rw [<-hwm];exact aB rfl 1 rfl
     have acG:w3.heap.size<=wm.heap.size:=(aa HBm).size
     by_cases hk0:xk=0
     ·subst hk0
      rw [decide_eq_true rfl] at hsb
      go_wp2_with (at_builtin;refine jK Tryz.underlying176 YC rfl (by decide) (by decide) w3.heap.size w3 wm _ _ [.string xs] _ (.tmp 47) (.tmp 51) rfl rfl rfl wm.heap.size rfl rfl HSm HBm acG hl2 rfl (by intro u hu;simp at hu;rw [hu];rfl) ?_;intro g3 f_ w4 xR p9 HK4)
      go_roundw
      case rel=>
       refine ⟨k'+1,by omega,by go_num,?_,?_,p9⟩
       ·have e2:=aa Xm (fun m=>!aX T m)
        rw [hsb] at e2
        simp only [Bool.not_true,Bool.false_eq_true,if_false,List.append_nil] at e2
        show World.ownsRow _ _ _ _ _ _ _
        rw [e2]
        exact aa HK4 _ _ _ _ _ _ (by decide) (aa HMm)
       ·have e2:=aa Xm (fun m=>aX T m)
        rw [if_pos hsb] at e2
        show World.ownsRow _ _ _ _ _ _ _
        rw [e2,List.length_append,List.map_append,show strs (((L.take k').filter fun m=>aX T m).map (Xn T)++[m].map (Xn T))=strs (((L.take k').filter fun m=>aX T m).map (Xn T))++[.string xs] from by simp [strs,hst]]
        exact xR
      case measure=>simp [intOf];omega
     ·rw [decide_eq_false hk0] at hsb
      have hnk:(xk==0)=false:=by simpa using hk0
      go_wp2_with (at_builtin;refine jK Tryz.underlying31 gU rfl (by decide) (by decide) w3.heap.size w3 wm _ _ [.int .i64 (m:Int)] _ (.tmp 53) (.tmp 55) rfl rfl rfl wm.heap.size rfl rfl HMm HBm acG hl1 rfl (by intro u hu;simp at hu;rw [hu];rfl) ?_;intro g3 f_ w4 xR p9 HK4)
      go_roundw
      case rel=>
       refine ⟨k'+1,by omega,by go_num,?_,?_,p9⟩
       ·have e2:=aa Xm (fun m=>!aX T m)
        rw [hsb] at e2
        simp only [Bool.not_false,if_true] at e2
        show World.ownsRow _ _ _ _ _ _ _
        rw [e2,List.length_append,ig,show ints (az ((L.take k').filter fun m=>!aX T m)++az [m])=ints (az ((L.take k').filter fun m=>!aX T m))++[.int .i64 (m:Int)] from by simp [ints,az]]
        exact xR
       ·have e2:=aa Xm (fun m=>aX T m)
        rw [if_neg (by rw [hsb];simp),List.append_nil] at e2
        show World.ownsRow _ _ _ _ _ _ _
        rw [e2]
        exact aa HK4 _ _ _ _ _ _ (by decide) (aa HSm)
      case measure=>simp [intOf];omega
    ·obtain rfl:k'=L.length:=by omega
     rw [List.take_length] at HM HST
     have hb:=(aa HB3).trans ((aa YG).mono hw3)
     go_wp2_with fail
     obtain ⟨a1,c1,rfl,-⟩:=aQ (aa HM)
     obtain ⟨a2,c2,rfl,-⟩:=aQ (aa HST)
     refine bodyPost_ret (v:=.tuple #[.slice a1 (L.filter fun m=>!aX T m).length c1,.slice a2 (L.filter fun m=>aX T m).length c2]) ?_ rfl ⟨a1,a2,c1,c2,rfl,eH (aa HM) hw3,eH (aa HST) hw3,hb⟩
     simp [results,Tryz.results110,go_sem]
end
end Go.Proofs.YtfolanohokflkaaGreatDoor
namespace Go.Proofs
open Go.Shelf
def Tryz.J9:Go.Shelf.Ren:=⟨fun | 10=>157 | 6=>233 | n=>n,fun | 22=>31 | 23=>3 | 25=>101 | 3=>3 | 4=>4 | 0=>0 | n=>n,fun | n=>n⟩
theorem Tryz.YH:Go.Proofs.SlLaysH.n10 Tryz.prog Tryz.J9:={
 mixed:=by kernel_rfl
 f6:=⟨ "slices.IndexFunc[[]int,int]",by decide,Tryz.func233.trans (congrArg some (by kernel_rfl))⟩
 f10:=⟨ "slices.DeleteFunc[[]int,int]",by decide,Tryz.func157.trans (congrArg some (by kernel_rfl))⟩
 t0:=Tryz.underlying0
 a0:=Tryz.isAgg0
 z0:=Tryz.sizeOf0
 v0:=Tryz.zeroValue0
 t3:=Tryz.underlying3
 a3:=Tryz.isAgg3
 z3:=Tryz.sizeOf3
 v3:=Tryz.zeroValue3
 t4:=Tryz.underlying4
 a4:=Tryz.isAgg4
 z4:=Tryz.sizeOf4
 v4:=Tryz.zeroValue4
 t22:=Tryz.underlying31
 a22:=Tryz.isAgg31
 z22:=Tryz.sizeOf31
 v22:=Tryz.zeroValue31
 a23:=Tryz.isAgg3
 z23:=Tryz.sizeOf3
 t25:=Tryz.underlying101
 a25:=Tryz.isAgg101
 z25:=Tryz.sizeOf101
 v25:=Tryz.zeroValue101 }
def Tryz.yl:Go.Shelf.Ren:=⟨fun | 43=>240 | n=>n,fun | 22=>107 | 23=>21 | 3=>3 | 4=>4 | 0=>0 | n=>n,fun | n=>n⟩
theorem Tryz.GK:Go.Proofs.SlLaysE.n43 Tryz.prog Tryz.yl:={
 mixed:=by kernel_rfl
 f43:=⟨ "slices.Compact[[]rune,rune]",by decide,Tryz.func240.trans (congrArg some (by kernel_rfl))⟩
 t0:=Tryz.underlying0
 a0:=Tryz.isAgg0
 z0:=Tryz.sizeOf0
 v0:=Tryz.zeroValue0
 t3:=Tryz.underlying3
 a3:=Tryz.isAgg3
 z3:=Tryz.sizeOf3
 v3:=Tryz.zeroValue3
 t4:=Tryz.underlying4
 a4:=Tryz.isAgg4
 z4:=Tryz.sizeOf4
 v4:=Tryz.zeroValue4
 t22:=Tryz.underlying107
 a22:=Tryz.isAgg107
 z22:=Tryz.sizeOf107
 v22:=Tryz.zeroValue107
 a23:=Tryz.isAgg21
 z23:=Tryz.sizeOf21 }
end Go.Proofs
