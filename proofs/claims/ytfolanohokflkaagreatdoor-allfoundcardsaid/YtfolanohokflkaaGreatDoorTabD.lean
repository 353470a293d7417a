import Derived.Test.YtfolanohokflkaaGreatDoorTabC
import Derived.Test.YtfolanohokflkaaGreatDoorLastA
import Derived.WalkKit
import Derived.WalkSpells
import Derived.WalkLawsBesides
import Derived.WalkMore
import Derived.Deep.QuietTactic
import Derived.BigQuiet
import Derived.BigRegion
import Derived.Deep.RegionHeld3
import Derived.Deep.AppendLies
namespace Go.Proofs.YtfolanohokflkaaGreatDoor
open Go.RowKit
def Yi (T:List Te) (k:Ky) (b:Bool):Prop:=
 (k.kd=0/\b=false)\/(k.kd=1/\b=true) \/
 (k.kd=2/\∃ (i j:Nat) (x y:Te),T[i]? = some x/\T[j]? = some y/\k.fi=(i:Int)/\k.se=(j:Int)/\b=(x.2&&y.2)) \/
 (k.kd=3/\(∃ (i:Nat) (x:Te),T[i]? = some x/\k.fi=(i:Int))/\b=true) \/
 (k.kd=4/\∃ (i j:Nat) (x y:Te),T[i]? = some x/\T[j]? = some y/\k.fi=(i:Int)/\k.se=(j:Int)/\b=(x.2||y.2)) \/
 (k.kd=5/\∃ (i j:Nat) (x y:Te),T[i]? = some x/\T[j]? = some y/\k.fi=(i:Int)/\k.se=(j:Int)/\b=(x.2&&y.2)) \/
 (k.kd=6/\∃ (i:Nat) (x:Te),T[i]? = some x/\k.fi=(i:Int)/\b=!x.2)
theorem aL {f:FuncId} {fn:Func} (hf:Tryz.prog.funcs[f]? = some fn) (hn:(fn.name== "runtime.NumGoroutine")=false) (hb:fn.body.isNone=false) (args:Array Value) (w:World):(callFunc f args).run Tryz.prog w=.ok (.enter f args) w:=by
 have hn':¬ fn.name= "runtime.NumGoroutine":=by simpa using hn
 have hb':¬ fn.body=none:=fun e=>by rw [e] at hb;cases hb
 simp [callFunc,hf,hn',hb',Result.andThen]
theorem acN {T:List Te} {k:Ky} {b:Bool} (h:Yi T k b):∃ n f:Nat,k.kd=(n:Int)/\n<7/\dN[n*3]? = some (fv f)/\(∀ (args:Array Value) (w:World),(callFunc f args).run Tryz.prog w=.ok (.enter f args) w) /\
  ∀ (w:World) (t:TB) (N S C:List (Value×Value)),Hid (aX w t T N S C)->Calls Tryz.prog f #[.pointer (some ⟨t.tb,0,none⟩),iD k] w fun e w'=>e=.returned (.bool b)/\Hid (Below w.heap.size w w'):=by
 rcases h with ⟨e,rfl⟩ | ⟨e,rfl⟩ | ⟨e,i,j,x,y,h1,h2,h3,h4,rfl⟩ | ⟨e,-,rfl⟩ | ⟨e,i,j,x,y,h1,h2,h3,h4,rfl⟩ | ⟨e,i,j,x,y,h1,h2,h3,h4,rfl⟩ | ⟨e,i,x,h1,h3,rfl⟩
 ·exact ⟨0,_,e,by omega,rfl,aL Tryz.func163 (by kernel_rfl) (by kernel_rfl),fun w t N S C H=>aaZ⟩
 ·exact ⟨1,_,e,by omega,rfl,aL Tryz.func168 (by kernel_rfl) (by kernel_rfl),fun w t N S C H=>TL⟩
 ·exact ⟨2,_,e,by omega,rfl,aL Tryz.func171 (by kernel_rfl) (by kernel_rfl),fun w t N S C H=>TM H h1 h2 h3 h4⟩
 ·exact ⟨3,_,e,by omega,rfl,aL Tryz.func175 (by kernel_rfl) (by kernel_rfl),fun w t N S C H=>Yh⟩
 ·exact ⟨4,_,e,by omega,rfl,aL Tryz.func178 (by kernel_rfl) (by kernel_rfl),fun w t N S C H=>aa1 H h1 h2 h3 h4⟩
 ·exact ⟨5,_,e,by omega,rfl,aL Tryz.func183 (by kernel_rfl) (by kernel_rfl),fun w t N S C H=>aa2 H h1 h2 h3 h4⟩
 ·exact ⟨6,_,e,by omega,rfl,aL Tryz.func186 (by kernel_rfl) (by kernel_rfl),fun w t N S C H=>aa0 H h1 h3⟩
section
variable {w w':World} {t:TB} {T:List Te} {N S C:List (Value×Value)} {k:Ky} {b:Bool}
theorem Oq (hn:∀ x∈T,x.1≠k):∀ p∈ak T,p.1≠iD k:=fun p hp e=>by
 obtain ⟨x,hx,e'⟩:=vM hp
 exact hn x hx (Om (e'.symm.trans e))
theorem aX.unknown (h:aX w t T (ak T) S C) (hk:zw k) (hn:∀ x∈T,x.1≠k):(Instr.lookup 126 (.map (some t.nb)) (iD k) true).run Tryz.prog w=.ok (.tuple #[.int .i64 0,.bool false]) w:=
 sS FL Tryz.underlying126 h.nb h.keys (Ye hk) (Oq hn) (by simp [go_sem])
theorem aX.enter (h:aX w t T (ak T) S C) (hk:zw k) (hn:∀ x∈T,x.1≠k):(Instr.mapUpdate 126 (.map (some t.nb)) (iD k) (.int .i64 T.length)).run Tryz.prog w=.ok () (ChangeMaps.setBlock w t.nb (mkMap (ak (T++[(k,b)])))):=by
 rw [DJ]
 exact vL FL Tryz.underlying126 h.nb h.keys (Ye hk) (Oq hn) _
theorem bO {r i:Nat} {o:Obj} (h:i≠r):(ChangeMaps.setBlock w r o).heap[i]? = w.heap[i]? := by
 show (w.heap.setIfInBounds r o)[i]? = _
 rw [Array.getElem?_setIfInBounds_ne (Ne.symm h)]
theorem vN {r:Nat} {o:Obj} (h:r<w.heap.size):(ChangeMaps.setBlock w r o).heap[r]? = some o:=by
 show (w.heap.setIfInBounds r o)[r]? = _
 rw [Array.getElem?_setIfInBounds_self,if_pos h]
theorem vO {r:Nat} {o:Obj}:(ChangeMaps.setBlock w r o).heap.size=w.heap.size:=by simp [ChangeMaps.setBlock]
theorem aX.numbered (h:aX w t T N S C) (N':List (Value×Value)):aX (ChangeMaps.setBlock w t.nb (mkMap N')) t T N' S C:=by
 obtain ⟨n1,n2,n3,n4,n5,n6⟩:=h.ne
 refine ⟨(bO n1).trans h.tb,vN (h.foot (.inr (.inl rfl))),(bO (Ne.symm n4)).trans h.sb,(bO (Ne.symm n5)).trans h.cb,?_,h.ne,h.nr,h.ok,h.nd⟩
 obtain ⟨hl,hx | ⟨g,cap,cur,hv,hb',hg,rest⟩⟩:=h.row
 ·exact ⟨hl,.inl hx⟩
 ·refine ⟨hl,.inr ⟨g,cap,cur,hv,hb',?_,rest⟩⟩
  have hne:g≠t.nb:=by injection hv with e;exact (h.nr _ e).2.1
  exact (bO hne).trans hg
theorem bI {r:Nat} {a c d e:Value} {ty:TypeId} (h:w.heap[r]? = some (.cells #[a,c,d,e] ty)):w.cell? ⟨r,0,none⟩=some a/\w.cell? ⟨r,1,none⟩=some c/\w.cell? ⟨r,2,none⟩=some d/\w.cell? ⟨r,3,none⟩=some e:=by
 refine ⟨?_,?_,?_,?_⟩<;>simp [World.cell?,h]
theorem aa3:(Tryz.prog.info? 161).map (fun i=>(i.zero,i.size,i.bytes))=some (some (.agg #[.int .i64 0,.string ⟨#[]⟩,.int .i64 0,.int .i64 0,.bool false]),5,48):=by kernel_rfl
theorem Yj (h:aX w t T N S C) (e:t.tn=T.length):w.ownsRow 0 161 5 (.slice t.ta T.length t.tc) T.length (d_ T):=by
 have:=h.row
 rw [e] at this
 exact this
def TB.grown (t:TB) (gg n cap:Nat):TB:=⟨t.tb,t.nb,t.sb,t.cb,some ⟨gg,0,none⟩,n,cap⟩
theorem Yk (t:TB) (n:Nat):(Value.slice t.ta n t.tc).ownBlock=t.row:=by
 unfold Value.ownBlock TB.row
 cases t.ta<;>rfl
theorem TQ {w6 w7:World} {o:Obj} {gg cap:Nat} (h:aX w6 t T (ak (T++[(k,b)])) S C) (hk:zw k) (hn:∀ x∈T,x.1≠k)
  (ho:w7.ownsRow 0 161 5 (.slice (some ⟨gg,0,none⟩) (T.length+1) cap) (T.length+1) (d_ T++[.int .i64 k.kd,.string k.st,.int .i64 k.fi,.int .i64 k.se,.bool b]))
  (hg:(w6.alloc o).grownBy w7 t.row) (hat:t.row=some gg\/gg=w6.heap.size+1) :
  aX (w7.setCell ⟨t.tb,22,none⟩ (.slice (some ⟨gg,0,none⟩) (T.length+1) cap)) (t.grown gg (T.length+1) cap) (T++[(k,b)]) (ak (T++[(k,b)])) S C:=by
 obtain ⟨n1,n2,n3,n4,n5,n6⟩:=h.ne
 have hnr:∀ k,t.row=some k->k≠t.tb/\k≠t.nb/\k≠t.sb/\k≠t.cb:=fun k hk=>by
  simp only [TB.row,Option.map_eq_some_iff] at hk
  obtain ⟨a,ha,rfl⟩:=hk
  exact h.nr a ha
 have hbl:∀ k,k<w6.heap.size->t.row≠some k->w7.heap[k]? = w6.heap[k]? := fun k hk hr=>(hg.block k (by simp;omega) (Ne.symm hr)).trans (Below.heap_alloc w6 o k hk)
 have lt1:=h.lt
 have lt2:t.nb<w6.heap.size:=h.foot (.inr (.inl rfl))
 have lt3:t.sb<w6.heap.size:=h.foot (.inr (.inr (.inl rfl)))
 have lt4:t.cb<w6.heap.size:=h.foot (.inr (.inr (.inr (.inl rfl))))
 have hgg:gg≠t.tb/\gg≠t.nb/\gg≠t.sb/\gg≠t.cb:=by
  rcases hat with e | e
  ·exact hnr gg e
  ·omega
 have e1:w7.heap[t.tb]? = some (.cells (n_ t).toArray 131 (0,0)):=(hbl _ lt1 (fun e=>(hnr _ e).1 rfl)).trans h.tb
 refine ⟨?_,?_,?_,?_,?_,h.ne,?_,?_,?_⟩
 ·have e2:=heap_setCell_same w7 t.tb 22 _ _ (.slice (some ⟨gg,0,none⟩) (T.length+1) cap) e1
  refine e2.trans ?_
  simp [n_,dN,TB.grown]
 ·exact (Below.heap_setCell _ ⟨t.tb,22,none⟩ _ t.nb (Ne.symm n1)).trans ((hbl _ lt2 (fun e=>(hnr _ e).2.1 rfl)).trans h.nb)
 ·exact (Below.heap_setCell _ ⟨t.tb,22,none⟩ _ t.sb (Ne.symm n2)).trans ((hbl _ lt3 (fun e=>(hnr _ e).2.2.1 rfl)).trans h.sb)
 ·exact (Below.heap_setCell _ ⟨t.tb,22,none⟩ _ t.cb (Ne.symm n3)).trans ((hbl _ lt4 (fun e=>(hnr _ e).2.2.2 rfl)).trans h.cb)
 ·have hx:d_ (T++[(k,b)])=d_ T++[.int .i64 k.kd,.string k.st,.int .i64 k.fi,.int .i64 k.se,.bool b]:=by rw [Aw];rfl
  rw [List.length_append,hx]
  obtain ⟨hl,⟨hv,h0⟩ | ⟨g,cap',cur,hv,hb',hgc,rest⟩⟩:=ho
  ·cases hv
  ·refine ⟨hl,.inr ⟨g,cap',cur,hv,hb',?_,rest⟩⟩
   have hg':g=gg:=by injection hv with e;injection e with e;injection e with e;exact e.symm
   rw [hg'] at hgc ⊢
   exact (Below.heap_setCell _ ⟨t.tb,22,none⟩ _ gg hgg.1).trans hgc
 ·intro a ha
  have:a=⟨gg,0,none⟩:=by
   simp only [TB.grown,Option.some.injEq] at ha
   exact ha.symm
  subst this
  exact hgg
 ·intro x hx
  rcases List.mem_append.1 hx with hx | hx
  ·exact h.ok x hx
  ·rw [List.mem_singleton] at hx
   subst hx
   exact hk
 ·rw [List.map_append]
  refine List.nodup_append.2 ⟨h.nd,by simp,fun a ha c hc e=>?_⟩
  obtain ⟨x,hx,rfl⟩:=List.mem_map.1 ha
  simp at hc
  exact hn x hx (e.trans hc)
theorem Yl {w w6 w7:World} {o:Obj} {u:Value} {gg n cap:Nat} (h:a_ t t w w6) (hg:(w6.alloc o).grownBy w7 t.row) (hat:t.row=some gg\/gg=w6.heap.size+1):a_ t (t.grown gg n cap) w (w7.setCell ⟨t.tb,22,none⟩ u):=by
 have hs:=hg.size
 have hs6:=h.size
 simp only [World.alloc,Array.size_push] at hs
 refine ⟨hg.os.trans h.os,hg.tape.trans h.tape,hg.output.trans h.output,by simp [World.setCell];omega,fun k hk hf=>?_,rfl,rfl,rfl,rfl,fun k hk=>?_⟩
 ·have k1:k≠t.tb:=fun e=>hf (.inl e)
  have k2:t.row≠some k:=fun e=>hf (.inr (.inr (.inr (.inr e))))
  exact (Below.heap_setCell _ ⟨t.tb,22,none⟩ _ k k1).trans ((hg.block k (by simp;omega) (Ne.symm k2)).trans ((Below.heap_alloc w6 o k (by omega)).trans (h.block k hk hf)))
 ·have:gg=k:=by simpa [TB.row,TB.grown] using hk
  subst this
  rcases hat with e | e
  ·exact .inl e
  ·exact .inr (by omega)
theorem a_.set (h:a_ t t w w') {r:Nat} (hr:TF t r) (o:Obj):a_ t t w (ChangeMaps.setBlock w' r o):=
 ⟨h.os,h.tape,h.output,by rw [vO];exact h.size,fun k hk hf=>(bO (fun (e:k=r)=>hf (by rw [e];exact hr))).trans (h.block k hk hf),rfl,rfl,rfl,rfl,fun _ e=>.inl e⟩
set_option maxRecDepth 100000 in
set_option maxHeartbeats 4000000 in
theorem TR (h:Hid (aX w t T (ak T) S C)) (hk:zw k) (hw:Yi T k b) (hn:∀ x∈T,x.1≠k) (hl:T.length<1000000000000):Calls Tryz.prog 84 #[.pointer (some ⟨t.tb,0,none⟩),iD k] w fun e w'=>e=.returned (.int .i64 T.length)/\∃ t',Hid (aX w' t' (T++[(k,b)]) (ak (T++[(k,b)])) S C)/\Hid (a_ t t' w w'):=by
 obtain ⟨n,f,hkd,hn7,hcell,hcf,HF⟩:=acN hw
 obtain ⟨kd,st,fi,se⟩:=k
 dsimp only at hkd
 subst hkd
 have HT1:=aX.alloc h (.cells #[.int .i64 n,.string st,.int .i64 fi,.int .i64 se] 135)
 have H1:=aa HT1
 obtain ⟨q1,q2,q3,q4⟩:=H1.cells
 have hlk:=fun m=>(H1.drew m).unknown hk hn
 have hl0:=H1.unknown hk hn
 have hup:=fun m=>(H1.drew m).enter (b:=b) hk hn
 have hup':=fun m=>((H1.drew m).drew 1).enter (b:=b) hk hn
 have htn:t.tn=T.length:=by
  obtain ⟨hl,⟨hv,hn⟩ | ⟨g,cap,cur,hv,-⟩⟩:=H1.row
  ·injection hv with e1 e2 e3;omega
  ·injection hv with e1 e2 e3
 rw [htn] at q2
 unfold iD at hlk hl0 ⊢
 dsimp only at hlk hl0 ⊢
 have HNB:Hid (t.nb<w.heap.size):=(aa h).foot (.inr (.inl rfl))
 have TS:Hid (t.tb<w.heap.size):=(aa h).lt
 have HRW:Hid (∀ k,t.row=some k->k<w.heap.size):=fun k e=>(aa h).foot (.inr (.inr (.inr (.inr e))))
 clear H1 h hup hup'
 go_enter Tryz.func84,Tryz.ntmps84
 go_wp2_with fail
 go_quiet (fail)
 go_wp2_with fail
 have QS:=hide ((aa HT1).drew nq)
 have HKq:=hide (heap_alloc_new w (.cells #[.int .i64 n,.string st,.int .i64 fi,.int .i64 se] 135))
 have HKq':Hid (((w.alloc (.cells #[.int .i64 n,.string st,.int .i64 fi,.int .i64 se] 135)).drewN nq).heap[w.heap.size]? = some (.cells #[.int .i64 n,.string st,.int .i64 fi,.int .i64 se] 135)):=aa HKq
 have XN:=sU w (.cells #[.int .i64 n,.string st,.int .i64 fi,.int .i64 se] 135) nq
 clear HT1 HKq q1 q2 q3 q4 hlk hl0
 generalize (w.alloc (.cells #[.int .i64 n,.string st,.int .i64 fi,.int .i64 se] 135)).drewN nq=Wq at *
 have HTq':Hid (aX Wq.drew t T (ak T) S C):=(aa QS).drew 1
 obtain ⟨q1,q2,q3,q4⟩:=(aa QS).cells
 obtain ⟨k0,k1,k2,k3⟩:=bI (aa HKq')
 have hup:=(aa HTq').enter (b:=b) hk hn
 unfold iD at hup
 dsimp only at hup
 go_region
 have qY:=hide ((aa HTq').numbered (ak (T++[(⟨n,st,fi,se⟩,b)])))
 have aeQ:t.nb<w.heap.size:=aa HNB
 have FM:Hid ((ChangeMaps.setBlock Wq.drew t.nb (mkMap (ak (T++[(⟨n,st,fi,se⟩,b)])))).heap[w.heap.size]? = some (.cells #[.int .i64 n,.string st,.int .i64 fi,.int .i64 se] 135)):=(bO (by omega)).trans (aa HKq')
 have Mf:Hid (a_ t t w (ChangeMaps.setBlock Wq.drew t.nb (mkMap (ak (T++[(⟨n,st,fi,se⟩,b)]))))):=a_.set (a_.below (aa XN).drew) (.inr (.inl rfl)) _
 clear QS HTq' HKq' XN q1 q2 q3 q4 k0 k1 k2 k3 hup
 generalize ChangeMaps.setBlock Wq.drew t.nb (mkMap (ak (T++[(⟨n,st,fi,se⟩,b)])))=W5 at *
 obtain ⟨q1,q2,q3,q4⟩:=(aa qY).cells
 rw [htn] at q2
 have qf:=(aa qY).fz 22
 have qk:=(aa qY).kind hcell
 obtain ⟨k0,k1,k2,k3⟩:=bI (aa FM)
 have HC:Hid (∀ (m:Nat),Calls Tryz.prog f #[.pointer (some ⟨t.tb,0,none⟩),.agg #[.int .i64 n,.string st,.int .i64 fi,.int .i64 se]] (W5.drewN m) fun e w'=>e=.returned (.bool b)/\Hid (Below (W5.drewN m).heap.size (W5.drewN m) w')):=fun m=>HF _ t _ S C (hide ((aa qY).drew m))
 go_wp2_with fail
 have hn0:(0:Int)<=(n:Int):=by omega
 have hn7':(n:Int)<7:=by omega
 have hkb:w.heap.size<W5.heap.size:=(Array.getElem?_eq_some_iff.1 (aa FM)).1
 have htb:t.tb<W5.heap.size:=(aa qY).lt
 have htw:t.tb<w.heap.size:=aa TS
 obtain ⟨i0,hi0,hz0,hz1,hz2⟩:=info_parts aa3
 have hr1:t.row≠some w.heap.size:=fun e=>by have:=aa HRW _ e;omega
 have hr2:t.row≠some t.tb:=fun e=>by
  simp only [TB.row,Option.map_eq_some_iff] at e
  obtain ⟨a,ha,e⟩:=e
  exact ((aa qY).nr a ha).1 e
 generalize aeR:w.heap.size=kb at *
 have e1:kb≠t.tb:=by omega
 have e2:t.tb≠kb:=by omega
 have e3:n*3≠22:=by omega
 refine AB (S:=fun w'=>w'.cell? ⟨kb,0,none⟩=some (.int .i64 n)/\w'.cell? ⟨kb,1,none⟩=some (.string st)/\w'.cell? ⟨kb,2,none⟩=some (.int .i64 fi)/\w'.cell? ⟨kb,3,none⟩=some (.int .i64 se)/\w'.cell? ⟨t.tb,n*3,none⟩=some (fv f)/\w'.cell? ⟨t.tb,22,none⟩=some (.slice t.ta T.length t.tc)) rfl (by kernel_rfl) (by kernel_rfl) ⟨k0,k1,k2,k3,qk,q2⟩ (fun hHeld=>?_)
 simp only [List.pop_toArray,List.dropLast,List.size_toArray,List.length_cons,List.length_nil,Nat.reduceAdd]
 refine wpAnyH_take (i:=0) (v:=?_) rfl (by kernel_rfl) (by kernel_rfl) (by kernel_rfl) (fun _ _ _ h=>h) (Or.inl ⟨by rfl,?_⟩) (by assumption) ?_
 rotate_left
 ·intro W hW;(try dsimp only at hW);go_simp;(try with_reducible rfl)
 refine wpAnyH_take (i:=1) (v:=?_) rfl (by kernel_rfl) (by kernel_rfl) (by kernel_rfl) (fun _ _ _ h=>h) (Or.inl ⟨by rfl,?_⟩) (by assumption) ?_
 rotate_left
 ·intro W hW;(try dsimp only at hW);go_simp;(try with_reducible rfl)
 refine wpAnyH_take (i:=2) (v:=?_) rfl (by kernel_rfl) (by kernel_rfl) (by kernel_rfl) (fun _ _ _ h=>h) (Or.inl ⟨by rfl,?_⟩) (by assumption) ?_
 rotate_left
 ·intro W hW;(try dsimp only at hW);go_simp;(try with_reducible rfl)
 refine wpAnyH_take (i:=3) (v:=?_) rfl (by kernel_rfl) (by kernel_rfl) (by kernel_rfl) (fun _ _ _ h=>h) (Or.inl ⟨by rfl,?_⟩) (by assumption) ?_
 rotate_left
 ·intro W hW;(try dsimp only at hW);go_simp;(try with_reducible rfl)
 refine wpAnyH_take (i:=4) (v:=?_) rfl (by kernel_rfl) (by kernel_rfl) (by kernel_rfl) (fun _ _ _ h=>h) (Or.inl ⟨by rfl,?_⟩) (by assumption) ?_
 rotate_left
 ·intro W hW;(try dsimp only at hW);go_simp;(try with_reducible rfl)
 refine wpAnyH_take (i:=5) (v:=?_) rfl (by kernel_rfl) (by kernel_rfl) (by kernel_rfl) (fun _ _ _ h=>h) (Or.inl ⟨by rfl,?_⟩) (by assumption) ?_
 rotate_left
 ·intro W hW;(try dsimp only at hW);go_simp;(try with_reducible rfl)
 refine wpAnyH_take (i:=6) (v:=?_) rfl (by kernel_rfl) (by kernel_rfl) (by kernel_rfl) (fun _ _ _ h=>h) (Or.inl ⟨by rfl,?_⟩) (by assumption) ?_
 rotate_left
 ·intro W hW;(try dsimp only at hW);go_simp;(try with_reducible rfl)
 refine wpAnyH_take (i:=7) (v:=?_) rfl (by kernel_rfl) (by kernel_rfl) (by kernel_rfl) (fun _ _ _ h=>h) (Or.inl ⟨by rfl,?_⟩) (by assumption) ?_
 rotate_left
 ·intro W hW;(try dsimp only at hW);go_simp;(try with_reducible rfl)
 refine wpAnyH_take (i:=8) (v:=?_) rfl (by kernel_rfl) (by kernel_rfl) (by kernel_rfl) (fun _ _ _ h=>h) (Or.inl ⟨by rfl,?_⟩) (by assumption) ?_
 rotate_left
 ·intro W hW;(try dsimp only at hW);go_simp;(try with_reducible rfl)
 refine wpAnyH_take (i:=9) (v:=?_) rfl (by kernel_rfl) (by kernel_rfl) (by kernel_rfl) (fun _ _ _ h=>h) (Or.inl ⟨by rfl,?_⟩) (by assumption) ?_
 rotate_left
 ·intro W hW;(try dsimp only at hW);go_simp;(try with_reducible rfl)
 refine wpAnyH_take (i:=10) (v:=?_) rfl (by kernel_rfl) (by kernel_rfl) (by kernel_rfl) (fun _ _ _ h=>h) (Or.inl ⟨by rfl,?_⟩) (by assumption) ?_
 rotate_left
 ·intro W hW;(try dsimp only at hW);go_simp;(try with_reducible rfl)
 refine wpAnyH_take (i:=11) (v:=?_) rfl (by kernel_rfl) (by kernel_rfl) (by kernel_rfl) (fun _ _ _ h=>h) (Or.inl ⟨by rfl,?_⟩) (by assumption) ?_
 rotate_left
 ·intro W hW;(try dsimp only at hW);go_simp;(try with_reducible rfl)
 refine wpAnyH_take (i:=12) (v:=?_) rfl (by kernel_rfl) (by kernel_rfl) (by kernel_rfl) (fun _ _ _ h=>h) (Or.inl ⟨by rfl,?_⟩) (by assumption) ?_
 rotate_left
 ·intro W hW;(try dsimp only at hW);go_simp;(try with_reducible rfl)
 refine wpAnyH_take (i:=13) (v:=?_) rfl (by kernel_rfl) (by kernel_rfl) (by kernel_rfl) (fun _ _ _ h=>h) (Or.inl ⟨by rfl,?_⟩) (by assumption) ?_
 rotate_left
 ·intro W hW;(try dsimp only at hW);go_simp;(try with_reducible rfl)
 refine wpAnyH_take (i:=14) (v:=?_) rfl (by kernel_rfl) (by kernel_rfl) (by kernel_rfl) (fun _ _ _ h=>h) (Or.inl ⟨by rfl,?_⟩) (by assumption) ?_
 rotate_left
 ·intro W hW;(try dsimp only at hW);go_simp;(try with_reducible rfl)
 refine wpAnyH_take (i:=15) (v:=?_) rfl (by kernel_rfl) (by kernel_rfl) (by kernel_rfl) (fun _ _ _ h=>h) (Or.inl ⟨by rfl,?_⟩) (by assumption) ?_
 rotate_left
 ·intro W hW;(try dsimp only at hW);go_simp;(try with_reducible rfl)
 refine wpAnyH_ready (rs:=[16]) (by kernel_rfl) (by simp) ?_
 refine AllReadyH.cons rfl (fun K hK=>?_) AllReadyH.nil
 go_simp
 refine Calls.mono (aa HC 1) ?_
 rintro x w6 ⟨rfl,Dz⟩
 dsimp only
 have hw6:=(aa Dz).size
 have hc6:∀ (a i:Nat) (u:Value),a<W5.heap.size->W5.cell? ⟨a,i,none⟩=some u->w6.cell? ⟨a,i,none⟩=some u:=fun a i u ha hu=>by rw [(aa Dz).cell (p:=⟨a,i,none⟩) ha];exact hu
 have r0:=hc6 _ _ _ hkb k0
 have r1:=hc6 _ _ _ hkb k1
 have r2:=hc6 _ _ _ hkb k2
 have r3:=hc6 _ _ _ hkb k3
 have rk:=hc6 _ _ _ htb qk
 have r22:=hc6 _ _ _ htb q2
 have XO:=aX.below (hide ((aa qY).drew 1)) (aa Dz)
 have Mg:=hide (Yj (aa XO) htn)
 have Ym:kb<w6.heap.size:=World.block_lt_of_cell? w6 _ r0
 have aa4:t.tb<w6.heap.size:=World.block_lt_of_cell? w6 _ rk
 have rf:=(aa XO).fz 22
 clear hc6 k0 k1 k2 k3 qk q1 q2 q3 q4 qf
 refine hK.out _ _ ⟨r0,r1,r2,r3,rk,r22⟩ (fun hHeld=>?_)
 clear hK K
 refine wpAnyH_take (i:=17) (v:=?_) rfl (by kernel_rfl) (by kernel_rfl) (by kernel_rfl) (fun _ _ _ h=>h) (Or.inl ⟨by rfl,?_⟩) (by assumption) ?_
 rotate_left
 ·intro W hW;(try dsimp only at hW);go_simp;(try with_reducible rfl)
 refine wpAnyH_ready (rs:=[18]) (by kernel_rfl) (by simp) ?_
 refine AllReadyH.cons rfl (fun K hK=>?_) AllReadyH.nil
 go_simp
 refine hK.out _ _ ?_ (fun hHeld=>?_)
 ·go_keep
 clear hK K
 refine wpAnyH_ready (rs:=[19]) (by kernel_rfl) (by simp) ?_
 refine AllReadyH.cons rfl (fun K hK=>?_) AllReadyH.nil
 refine step_append_lies _ (by rfl) _ _ _ (by rfl) 0 161 i0 _ 5 48 Tryz.underlying129 hi0 hz0 hz1 hz2 rfl (by omega) (.slice t.ta T.length t.tc) T.length (d_ T) (by rfl) ((aa Mg).alloc _) ⟨w6.heap.size,0,none⟩ 1 1 [.int .i64 n,.string st,.int .i64 fi,.int .i64 se,.bool b] (by rfl) (by rfl) (World.news_of_block (cs:=#[.int .i64 n,.string st,.int .i64 fi,.int .i64 se,.bool b]) (t:=161) (fr:=(0,0)) (heap_alloc_new w6 _)) (by intro u hu;simp at hu;rcases hu with rfl | rfl | rfl | rfl | rfl<;>rfl) (by omega) (by unfold maxLen;omega) (by omega) (Nat.zero_le _) (w6.heap.size+1) (by simp) ?_
 intro gg cap w7 hown1 hgrow hat hlt1
 rw [Yk] at hgrow hat
 have HG:=hide hgrow
 have HO7:=hide hown1
 have HAT:=hide hat
 have LU:∀ (a i:Nat) (u:Value),a<w6.heap.size->t.row≠some a->w6.cell? ⟨a,i,none⟩=some u->w7.cell? ⟨a,i,none⟩=some u:=fun a i u ha hr hu=>by rw [World.cell?_of_block (a:=⟨a,i,none⟩) ((hgrow.block a (by simp;omega) (Ne.symm hr)).trans (Below.heap_alloc w6 _ a ha))];exact hu
 have u22:=LU _ _ _ aa4 hr2 r22
 have uf:w7.frozen? ⟨t.tb,22,none⟩=false:=by rw [World.frozen?_of_block (a:=⟨t.tb,22,none⟩) ((hgrow.block t.tb (by simp;omega) (Ne.symm hr2)).trans (Below.heap_alloc w6 _ t.tb aa4))];exact rf
 refine hK.out _ _ ⟨LU _ _ _ Ym hr1 r0,LU _ _ _ Ym hr1 r1,LU _ _ _ Ym hr1 r2,LU _ _ _ Ym hr1 r3,LU _ _ _ aa4 hr2 rk,u22⟩ (fun hHeld=>?_)
 clear hK K hgrow hown1 hat LU
 refine wpAnyH_take (i:=20) (v:=?_) rfl (by kernel_rfl) (by kernel_rfl) (by kernel_rfl) (fun _ _ _ h=>h) (Or.inl ⟨by rfl,?_⟩) (by assumption) ?_
 rotate_left
 ·intro W hW;(try dsimp only at hW);go_simp;(try with_reducible rfl)
 refine wpAnyH_take (i:=21) (v:=?_) rfl (by kernel_rfl) (by kernel_rfl) (by kernel_rfl) (fun _ _ _ h=>h) (Or.inl ⟨by rfl,?_⟩) (by assumption) ?_
 rotate_left
 ·intro W hW;(try dsimp only at hW);go_simp;(try with_reducible rfl)
 refine wpAnyH_done (by kernel_rfl) ?_ _
 show Oper.wp _ _ _ _ _ _
 go_simp
 go_wp2_with fail
 go_ret
 have hb:=aa Dz
 have hf6:a_ t t w w6:=(aa Mf).trans (a_.below ⟨hb.os,hb.tape,hb.output,hb.size,hb.block⟩)
 exact ⟨rfl,_,TQ (aa XO) hk hn (aa HO7) (aa HG) (aa HAT),Yl hf6 (aa HG) (aa HAT)⟩
end
end Go.Proofs.YtfolanohokflkaaGreatDoor
