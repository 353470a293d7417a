import Derived.Test.YtfolanohokflkaaGreatDoorRpI
import Derived.Test.YtfolanohokflkaaGreatDoorOnlD
import Derived.Test.YtfolanohokflkaaGreatDoorSpA
import Derived.WalkKit
import Derived.WalkSpells
import Derived.WalkLawsBesides
import Derived.WalkMore
import Derived.Test.YtfolanohokflkaaGreatDoorTabD
import Derived.Deep.AppendLies
import Derived.Deep.QuietTactic
import Derived.BigQuiet
namespace Go.Proofs.YtfolanohokflkaaGreatDoor
open Go.RowKit Go.Shelf
attribute [local go_sem] Oper.semAt_some
theorem Ki (l:List Nat) (y:Nat):(ay l).filter (fun x=>!decide (x=(y:Int)))=ay (l.filter fun m=>decide (m≠y)):=by
 induction l with
 | nil=>rfl
 | cons a l ih=>
  rw [show ay (a::l)=(a:Int)::ay l from rfl,List.filter_cons,List.filter_cons,ih]
  by_cases h:a=y
  ·subst h;simp
  ·have:¬ ((a:Int)=(y:Int)):=by omega
   simp [h,this,ay]
theorem CE (w:World) (g cap:Nat) (l:List Nat) (y:Nat) (kb:Nat) (hN:l.length<=1000000000000) (h:w.ownsRow 0 3 1 (.slice (some ⟨g,0,none⟩) l.length cap) l.length (ints (ay l))) (hk:w.cell? ⟨kb,0,none⟩=some (.int .i64 (y:Int))) (hne:kb≠g) :
  Calls Tryz.prog 157 #[.slice (some ⟨g,0,none⟩) l.length cap,.func (.func 158) #[] #[.pointer (some ⟨kb,0,none⟩)]] w fun e w'=>e=.returned (.slice (some ⟨g,0,none⟩) (l.filter fun m=>decide (m≠y)).length cap)/\Hid (w'.ownsRow 0 3 1 (.slice (some ⟨g,0,none⟩) (l.filter fun m=>decide (m≠y)).length cap) (l.filter fun m=>decide (m≠y)).length (ints (ay (l.filter fun m=>decide (m≠y)))))/\Hid (w.grownBy w' (some g)):=by
 have:=Zf w g l.length cap (ay l) (y:Int) kb (aO l) (by omega) h hk hne
 rw [Ki,aO] at this
 exact this.mono fun e w' ⟨h1,h2,h3⟩=>⟨h1,h2,h3⟩
theorem qA {w:World} {g n cap:Nat} {l:List Nat} (hl:l.length=n) (h:w.ownsRow 0 3 1 (.slice (some ⟨g,0,none⟩) n cap) n (ints (ay l))):∀ j,j<(ay l).length->w.cell? ⟨g,0+j,none⟩=some (.int .i64 ((ay l).getD j 0)):=fun j hj=>by
 rw [aO] at hj
 rw [Nat.zero_add,h.cellAt j (by omega)]
 unfold ints
 rw [List.getElem?_map,List.getD_eq_getElem?_getD,List.getElem?_eq_getElem (by rw [aO];exact hj)]
 rfl
theorem CF (w:World) (g cap:Nat) (l:List Nat) (y:Nat) (hN:l.length<=1000000000000) (h:w.ownsRow 0 3 1 (.slice (some ⟨g,0,none⟩) l.length cap) l.length (ints (ay l))) :
  Calls Tryz.prog 159 #[.slice (some ⟨g,0,none⟩) l.length cap,.int .i64 (y:Int)] w fun e w'=>e=.returned (.bool (decide (y∈l)))/\w'=w:=by
 have:=Tryz.slices_Contains_int g 0 l.length cap (ay l) (y:Int) w (by rw [aO];exact Nat.le_refl _) (by omega) (qA rfl h)
 rw [List.take_of_length_le (by rw [aO];exact Nat.le_refl _)] at this
 refine this.mono fun e w' ⟨h1,h2⟩=>⟨?_,h2⟩
 rw [h1]
 congr 2
 rw [Bool.eq_iff_iff]
 simp only [List.contains_iff_mem,decide_eq_true_eq]
 exact sF
structure Np (g:Nat) (t t':TB) (w w':World):Prop where
 os:w'.os=w.os
 tape:w'.tape=w.tape
 output:w'.output=w.output
 size:w.heap.size<=w'.heap.size
 block:∀ k,k<w.heap.size->¬ TF t k->k≠g->w'.heap[k]? = w.heap[k]?
 tb:t'.tb=t.tb
 nb:t'.nb=t.nb
 sb:t'.sb=t.sb
 cb:t'.cb=t.cb
 row:∀ k,t'.row=some k->t.row=some k\/w.heap.size<=k
theorem a_.past {t t1 t':TB} {w0 w w':World} {g:Nat} (h:a_ t t1 w0 w) (h':Np g t1 t' w w') (hg:w0.heap.size<=g):a_ t t' w0 w':=
 ⟨h'.os.trans h.os,h'.tape.trans h.tape,h'.output.trans h.output,Nat.le_trans h.size h'.size,fun k hk hf=>(h'.block k (Nat.lt_of_lt_of_le hk h.size) (fun hf'=>(h.foot hf').elim hf (fun hl=>by omega)) (by omega)).trans (h.block k hk hf),h'.tb.trans h.tb,h'.nb.trans h.nb,h'.sb.trans h.sb,h'.cb.trans h.cb,fun k hk=>(h'.row k hk).elim (fun e=>h.row k e) (fun hl=>.inr (Nat.le_trans h.size hl))⟩
theorem Np.of {t t':TB} {w wb w1 w':World} {g:Nat} (h1:Below w.heap.size w wb) (h2:wb.grownBy w1 (some g)) (h3:a_ t t' w1 w'):Np g t t' w w':=by
 have s1:=h1.size
 have s2:=h2.size
 exact ⟨h3.os.trans (h2.os.trans h1.os),h3.tape.trans (h2.tape.trans h1.tape),h3.output.trans (h2.output.trans h1.output),Nat.le_trans s1 (Nat.le_trans s2 h3.size),fun k hk hf hne=>(h3.block k (by omega) hf).trans ((h2.block k (by omega) (fun e=>hne (by injection e))).trans (h1.block k hk)),h3.tb,h3.nb,h3.sb,h3.cb,fun k hk=>(h3.row k hk).imp id fun hl=>by omega⟩
def Zh (R:List Te×Nat) (g:Nat) (w:World) (t:TB) (S C:List (Value×Value)) (e:Ending) (w':World):Prop:=
 e=.returned (.int .i64 R.2)/\∃ t',Hid (aX w' t' R.1 (ak R.1) S C)/\Hid (Np g t t' w w')
def jT (w:World) (t:TB) (kv iv:Int):World:=((w.alloc (.cells #[.pointer (some ⟨t.tb,0,none⟩)] 86)).alloc (.cells #[.int .i64 kv] 133)).alloc (.cells #[.int .i64 iv] 3)
theorem sH (w:World) (t:TB) (kv iv:Int):(jT w t kv iv).heap.size=w.heap.size+3:=by simp [jT]
theorem qB (w:World) (t:TB) (kv iv:Int):Below w.heap.size w (jT w t kv iv):=by
 have s1:(w.alloc (.cells #[.pointer (some ⟨t.tb,0,none⟩)] 86)).heap.size=w.heap.size+1:=by simp
 have s2:((w.alloc (.cells #[.pointer (some ⟨t.tb,0,none⟩)] 86)).alloc (.cells #[.int .i64 kv] 133)).heap.size=w.heap.size+1+1:=by simp
 exact (((Below.refl _ w).alloc (Nat.le_refl _) _).alloc (by rw [s1];omega) _).alloc (by rw [s2];omega) _
theorem VJ (w:World) (t:TB) (kv iv:Int):Boxed (jT w t kv iv) w.heap.size 86 (.pointer (some ⟨t.tb,0,none⟩)):=((Boxed.new w 86 (.pointer (some ⟨t.tb,0,none⟩))).alloc _).alloc _
theorem VK (w:World) (t:TB) (kv iv:Int):Boxed (jT w t kv iv) (w.heap.size+1) 133 (.int .i64 kv):=by
 have:=(Boxed.new (w.alloc (.cells #[.pointer (some ⟨t.tb,0,none⟩)] 86)) 133 (.int .i64 kv)).alloc (.cells #[.int .i64 iv] 3)
 rwa [show (w.alloc (.cells #[.pointer (some ⟨t.tb,0,none⟩)] 86)).heap.size=w.heap.size+1 from by simp] at this
theorem CG (w:World) (t:TB) (kv iv:Int):Boxed (jT w t kv iv) (w.heap.size+1+1) 3 (.int .i64 iv):=by
 have:=Boxed.new ((w.alloc (.cells #[.pointer (some ⟨t.tb,0,none⟩)] 86)).alloc (.cells #[.int .i64 kv] 133)) 3 (.int .i64 iv)
 rwa [show ((w.alloc (.cells #[.pointer (some ⟨t.tb,0,none⟩)] 86)).alloc (.cells #[.int .i64 kv] 133)).heap.size=w.heap.size+1+1 from by simp] at this
section
variable {w:World} {t:TB} {T:List Te} {S C:List (Value×Value)} {k:Bool} {ms:List Nat} {g cap:Nat}
theorem CJ {w1:World} (h:Hid (aX w t T (ak T) S C)) {wb:World} (h1:Below w.heap.size w wb) (h2:wb.grownBy w1 (some g)) (hg:¬ TF t g):Hid (aX w1 t T (ak T) S C):=by
 have hs:=h1.size
 exact (aa h).move fun i hi hil=>(h2.block i (by omega) (fun e=>hg (by injection e with e;rw [<-e];exact hi))).trans (h1.block i hil)
set_option maxRecDepth 100000 in
set_option maxHeartbeats 4000000 in
theorem R8 (h:Hid (aX w t T (ak T) S C)) (hms:ms.filter (fun m=>decide (m≠aY k))=[]) (hN:ms.length<=1000000000000) (ho:w.ownsRow 0 3 1 (.slice (some ⟨g,0,none⟩) ms.length cap) ms.length (ints (ay ms))) (hg:¬ TF t g) :
  Calls Tryz.prog 113 #[.pointer (some ⟨t.tb,0,none⟩),.int .i64 (kk k),.slice (some ⟨g,0,none⟩) ms.length cap,.int .i64 (aY k:Int),.int .i64 (dF k:Int)] w (Zh (T,aY k) g w t S C):=by
 have RY:g<w.heap.size:=qz ho
 have hB3:=qB w t (kk k) (aY k:Int)
 have adx:=sH w t (kk k) (aY k:Int)
 have bi:=CG w t (kk k) (aY k:Int)
 have CK:=hide (CE (jT w t (kk k) (aY k:Int)) g cap ms (aY k) (w.heap.size+1+1) hN (own_below ho hB3 (Nat.le_refl _)) bi.cell (by omega))
 rw [hms] at CK
 have ci:=bi.cell
 have HW3:Hid (jT w t (kk k) (aY k:Int)=((w.alloc (.cells #[.pointer (some ⟨t.tb,0,none⟩)] 86)).alloc (.cells #[.int .i64 (kk k)] 133)).alloc (.cells #[.int .i64 (aY k:Int)] 3)):=rfl
 have HBI:=hide bi
 have HB3:=hide hB3
 clear bi hB3 ho hms
 generalize jT w t (kk k) (aY k:Int)=W3 at *
 generalize hid:(aY k:Int)=iv at *
 generalize (dF k:Int)=rv at *
 generalize kk k=kv at *
 have hW3:=aa HW3
 clear HW3
 go_enter Tryz.func113,Tryz.ntmps113
 go_wp2_with (go_at_call 157;rw [<-hW3];refine (aa CK).mono ?_;clear CK;rintro e w1 ⟨rfl,xS,HG1⟩;have c1:w1.cell? ⟨w.heap.size+1+1,0,none⟩=some (.int .i64 iv):=((aa HBI).kept (aa HG1) (by intro e;injection e with e;omega)).cell)
 go_ret
 have hw1:=aa HG1
 refine ⟨by rw [<-hid];rfl,t,CJ h (aa HB3) hw1 hg,?_⟩
 exact Np.of (aa HB3) hw1 (a_.refl _ _)
set_option maxRecDepth 100000 in
set_option maxHeartbeats 4000000 in
theorem Nq (h:Hid (aX w t T (ak T) S C)) (hms:dF k∈ms.filter (fun m=>decide (m≠aY k))) (hN:ms.length<=1000000000000) (ho:w.ownsRow 0 3 1 (.slice (some ⟨g,0,none⟩) ms.length cap) ms.length (ints (ay ms))) (hg:¬ TF t g) :
  Calls Tryz.prog 113 #[.pointer (some ⟨t.tb,0,none⟩),.int .i64 (kk k),.slice (some ⟨g,0,none⟩) ms.length cap,.int .i64 (aY k:Int),.int .i64 (dF k:Int)] w (Zh (T,dF k) g w t S C):=by
 have RY:g<w.heap.size:=qz ho
 have hB3:=qB w t (kk k) (aY k:Int)
 have adx:=sH w t (kk k) (aY k:Int)
 have bi:=CG w t (kk k) (aY k:Int)
 have CK:=hide (CE (jT w t (kk k) (aY k:Int)) g cap ms (aY k) (w.heap.size+1+1) hN (own_below ho hB3 (Nat.le_refl _)) bi.cell (by omega))
 have hfl:(ms.filter fun m=>decide (m≠aY k)).length<=1000000000000:=Nat.le_trans (List.length_filter_le _ _) hN
 have hpos:0<(ms.filter fun m=>decide (m≠aY k)).length:=List.length_pos_of_mem hms
 have Nr:=hide (fun w1 (h1:w1.ownsRow 0 3 1 (.slice (some ⟨g,0,none⟩) (ms.filter fun m=>decide (m≠aY k)).length cap) (ms.filter fun m=>decide (m≠aY k)).length (ints (ay (ms.filter fun m=>decide (m≠aY k)))))=>CF w1 g cap (ms.filter fun m=>decide (m≠aY k)) (dF k) hfl h1)
 rw [decide_eq_true hms] at Nr
 have ci:=bi.cell
 have HW3:Hid (jT w t (kk k) (aY k:Int)=((w.alloc (.cells #[.pointer (some ⟨t.tb,0,none⟩)] 86)).alloc (.cells #[.int .i64 (kk k)] 133)).alloc (.cells #[.int .i64 (aY k:Int)] 3)):=rfl
 have HBI:=hide bi
 have HB3:=hide hB3
 clear bi hB3 ho hms
 generalize jT w t (kk k) (aY k:Int)=W3 at *
 generalize ms.filter (fun m=>decide (m≠aY k))=fs at *
 generalize (aY k:Int)=iv at *
 generalize hrv:(dF k:Int)=rv at *
 generalize kk k=kv at *
 have hW3:=aa HW3
 clear HW3
 have hne:¬ ((fs.length:Int)=0):=by omega
 go_enter Tryz.func113,Tryz.ntmps113
 go_wp2_with (first
  | (go_at_call 157;rw [<-hW3];refine (aa CK).mono ?_;clear CK;rintro e w1 ⟨rfl,xS,HG1⟩)
  | (go_at_call 159;refine (aa Nr _ (aa xS)).mono ?_;clear Nr;rintro e w2 ⟨rfl,rfl⟩))
 go_ret
 have hw1:=aa HG1
 refine ⟨by rw [<-hrv];rfl,t,CJ h (aa HB3) hw1 hg,?_⟩
 exact Np.of (aa HB3) hw1 (a_.refl _ _)
end
end Go.Proofs.YtfolanohokflkaaGreatDoor
namespace Go.Proofs.YtfolanohokflkaaGreatDoor
open Go.RowKit Go.Shelf
attribute [local go_sem] Oper.semAt_some
def stepJ (k:Bool) (R:List Te×Nat) (x:Nat):List Te×Nat:=dP R.1 (bW k x R.2)
def JP (k:Bool) (T:List Te) (z:Nat) (ns:List Nat) (pre:List (Fin ns.length)):List Te×Nat:=(pre.map fun x=>ns[x.val]).foldl (stepJ k) (T,z)
theorem Px (k:Bool) (T:List Te) (z:Nat) (ns:List Nat) (pre:List (Fin ns.length)) (x:Fin ns.length):JP k T z ns (pre++[x])=stepJ k (JP k T z ns pre) ns[x.val]:=by simp [JP]
theorem CL (k:Bool) (T:List Te) (z:Nat):∀ ns:List Nat,joinL T k (ns++[z])=ns.reverse.foldl (stepJ k) (T,z)
 | []=>rfl
 | a::ns=>by
  rw [List.reverse_cons,List.foldl_append,<-CL k T z ns]
  obtain ⟨b,r,e⟩:∃ b r,ns++[z]=b::r:=by
   cases ns with
   | nil=>exact ⟨_,_,rfl⟩
   | cons b r=>exact ⟨_,_,rfl⟩
  rw [List.cons_append,e]
  rfl
theorem abQ (k:Bool) (T:List Te) (z:Nat) (ns:List Nat):JP k T z ns (Ps ns.length)=joinL T k (ns++[z]):=by
 rw [CL]
 unfold JP Ps
 rw [List.map_reverse]
 congr 2
 apply List.ext_getElem
 ·simp
 ·intro i h1 h2
  simp
theorem Py {T:List Te} {k:Bool} {i j:Nat} (h:i<T.length) (h':j<T.length):AJ T (bW k i j):=.inr (.inr (.inl ⟨by cases k<;>simp [bW,kk],⟨i,h,rfl⟩,j,h',rfl⟩))
theorem Zi {k:Bool} {i j:Nat} (h:i<=fU) (h':j<=fU):zw (bW k i j):=⟨by cases k;exact aee;exact aef,uD,lT h,lT h'⟩
theorem Kj {k:Bool} {T:List Te}:∀ (l:List Nat) (R:List Te×Nat),Ext T R->(∀ x∈l,x<T.length)->Ext T (l.foldl (stepJ k) R)/\(l.foldl (stepJ k) R).1.length<=R.1.length+l.length
 | [],R,h,_=>⟨h,by simp⟩
 | x::l,R,h,hx=>by
  have h1:Ext T (stepJ k R x):=h.trans (Ext.keep h.wf (Py (Nat.lt_of_lt_of_le (hx x (List.mem_cons_self ..)) h.len) h.lt))
  have h2:(stepJ k R x).1.length<=R.1.length+1:=by
   unfold stepJ
   rcases dV R.1 (bW k x R.2) with ⟨_,_,_,e⟩ | ⟨_,e⟩<;>rw [e]<;>simp
  obtain ⟨h3,h4⟩:=Kj l (stepJ k R x) h1 fun y hy=>hx y (List.mem_cons_of_mem _ hy)
  rw [List.foldl_cons,List.length_cons]
  exact ⟨h3,by omega⟩
theorem aaP {k:Bool} {T:List Te} {z:Nat} {ns:List Nat} (hw:uI T) (hz:z<T.length) (hn:∀ x∈ns,x<T.length) (pre:List (Fin ns.length)):Ext T (JP k T z ns pre)/\(JP k T z ns pre).1.length<=T.length+pre.length:=by
 have:=Kj (k:=k) (T:=T) (pre.map fun x=>ns[x.val]) (T,z) (Ext.refl hw hz) (fun x hx=>by
  obtain ⟨y,_,rfl⟩:=List.mem_map.1 hx
  exact hn _ (List.getElem_mem _))
 rwa [List.length_map] at this
theorem R9 {ns:List Nat} {z j:Nat} (hj:j<ns.length):(ay (ns++[z])).getD j 0=(ns[j]:Int):=by
 rw [h_,List.getD_eq_getElem?_getD,List.getElem?_append_left (by rw [aO];exact hj)]
 simp [ay,hj]
def JwI (w w0:World) (t:TB) (S C:List (Value×Value)) (k:Bool) (T:List Te) (z:Nat) (ns:List Nat) (Bt Bk Bn:Nat) (kp:Nat->Prop) (pre:List (Fin ns.length)) (W:World):Prop:=
 ∃ t',Hid (aX W t' (JP k T z ns pre).1 (ak (JP k T z ns pre).1) S C)/\Hid (a_ t t' w W)/\(¬ TF t' Bt/\¬ TF t' Bk/\¬ TF t' Bn/\∀ i,kp i->¬ TF t' i)/\Boxed W Bn 3 (.int .i64 ((JP k T z ns pre).2:Int))/\Boxed W Bt 86 (.pointer (some ⟨t.tb,0,none⟩))/\Boxed W Bk 133 (.int .i64 (kk k))/\w0.heap.size<=W.heap.size
theorem JwI.own {w w0:World} {t:TB} {S C:List (Value×Value)} {k:Bool} {T:List Te} {z:Nat} {ns:List Nat} {Bt Bk Bn:Nat} {kp:Nat->Prop} (hn:t.nb<w0.heap.size/\t.sb<w0.heap.size/\t.cb<w0.heap.size) (hw0:w.heap.size<=w0.heap.size):OwnFrom w0.heap.size (JwI w w0 t S C k T z ns Bt Bk Bn kp):=by
 rintro s W W' row ⟨t',h1,h2,h3,h4,h5,h5',h6⟩ hg hr
 have f:=aa h2
 have hc:∀ (k:Nat) (cs:Array Value) (ty:TypeId) (z:Nat×Nat),W.heap[k]? = some (.cells cs ty z)->some k≠row:=fun k cs ty z e er=>by
  obtain ⟨_,o,ho,hcs⟩:=hr k er.symm
  rw [e] at ho
  cases ho
  cases hcs
 have hm:∀ k,TF t' k->k<W.heap.size->W'.heap[k]? = W.heap[k]? := fun k hk hl=>by
  refine hg.block k hl (fun er=>?_)
  have hge:=(hr k er.symm).1
  have g1:=aa h1
  rcases hk with rfl | rfl | rfl | rfl | e
  ·exact hc _ _ _ _ g1.tb er
  ·rw [f.nb] at hge;omega
  ·rw [f.sb] at hge;omega
  ·rw [f.cb] at hge;omega
  ·obtain ⟨_,hx | ⟨g,cap,cur,hv,hb',hg',rest⟩⟩:=g1.row
   ·have:t'.ta=none:=by injection hx.1
    simp [TB.row,this] at e
   ·injection hv with e1
    simp [TB.row,e1] at e
    subst e
    exact hc _ _ _ _ hg' er
 refine ⟨t',hide ((aa h1).move hm),hide ⟨hg.os.trans f.os,hg.tape.trans f.tape,hg.output.trans f.output,Nat.le_trans f.size hg.size,fun k hk hf=>?_,f.tb,f.nb,f.sb,f.cb,f.row⟩,h3,h4.kept hg (hc _ _ _ _ h4),h5.kept hg (hc _ _ _ _ h5),h5'.kept hg (hc _ _ _ _ h5'),Nat.le_trans h6 hg.size⟩
 exact (hg.block k (Nat.lt_of_lt_of_le hk f.size) (fun er=>by have:=(hr k er.symm).1;omega)).trans (f.block k hk hf)
section
variable {w:World} {t:TB} {T:List Te} {S C:List (Value×Value)} {k:Bool} {ms:List Nat} {g cap:Nat}
set_option maxRecDepth 100000 in
set_option maxHeartbeats 4000000 in
theorem R_ {ns:List Nat} {z:Nat} (h:Hid (aX w t T (ak T) S C)) (hw:uI T) (hms:ms.filter (fun m=>decide (m≠aY k))=ns++[z]) (hru:dF k∉ns++[z]) (hin:∀ x∈ns++[z],x<T.length) (hN:ms.length<=1000000000000) (hfl:(ns++[z]).length<=1000000) (hL:T.length+ns.length<=fU) (ho:w.ownsRow 0 3 1 (.slice (some ⟨g,0,none⟩) ms.length cap) ms.length (ints (ay ms))) (hg:¬ TF t g) :
  Calls Tryz.prog 113 #[.pointer (some ⟨t.tb,0,none⟩),.int .i64 (kk k),.slice (some ⟨g,0,none⟩) ms.length cap,.int .i64 (aY k:Int),.int .i64 (dF k:Int)] w (Zh (joinL T k (ns++[z])) g w t S C):=by
 have RY:g<w.heap.size:=qz ho
 have hB3:=qB w t (kk k) (aY k:Int)
 have adx:=sH w t (kk k) (aY k:Int)
 have bi:=CG w t (kk k) (aY k:Int)
 have bt:=VJ w t (kk k) (aY k:Int)
 have bk:=VK w t (kk k) (aY k:Int)
 have CK:=hide ((callsIn_wide (n:=7)).2 (CE (jT w t (kk k) (aY k:Int)) g cap ms (aY k) (w.heap.size+1+1) hN (own_below ho hB3 (Nat.le_refl _)) bi.cell (by omega)))
 rw [hms] at CK
 have hfs:(ns++[z]).length=ns.length+1:=by simp
 have Nr:=hide (fun w1 (h1:w1.ownsRow 0 3 1 (.slice (some ⟨g,0,none⟩) (ns++[z]).length cap) (ns++[z]).length (ints (ay (ns++[z]))))=>(callsIn_wide (n:=7)).2 (CF w1 g cap (ns++[z]) (dF k) (by omega) h1))
 rw [decide_eq_false hru] at Nr
 have HW3:Hid (jT w t (kk k) (aY k:Int)=((w.alloc (.cells #[.pointer (some ⟨t.tb,0,none⟩)] 86)).alloc (.cells #[.int .i64 (kk k)] 133)).alloc (.cells #[.int .i64 (aY k:Int)] 3)):=rfl
 have HBI:=hide bi
 have Ns:=hide bt
 have aew:=hide bk
 have HB3:=hide hB3
 have Zj:=hide hin
 clear bi bt bk hB3 ho hms hru hin
 generalize jT w t (kk k) (aY k:Int)=W3 at *
 generalize (aY k:Int)=iv at *
 generalize (dF k:Int)=rv at *
 have hW3:=aa HW3
 clear HW3
 refine (callsIn_wide (n:=8)).1 ?_
 refine callsIn_of_wp_marks Tryz.func113 rfl trivial ?_ rfl
 simp only [Tryz.ntmps113,List.size_toArray,List.length_cons,List.length_nil,Nat.reduceAdd,Nat.reduceSub,Array.replicate_succ,Array.replicate_zero,List.push_toArray,List.append_toArray,List.nil_append,List.cons_append]
 have HBK:=hide (fun a ln cap W=>aaO 7 a ln cap W)
 have hf:Fence.wide.fn 115:=trivial
 have hf2:Fence.wide.fn 157:=trivial
 have hf3:Fence.wide.fn 159:=trivial
 rw [hfs] at CK Nr
 have hne:¬ ((ns.length:Int)+1=0):=by omega
 gi_wp2_with (first
  | (gi_at_call 157;rw [<-hW3];refine (aa CK).mono ?_;clear CK;rintro e w1 ⟨rfl,xS,HG1⟩;have aeO:((ns.length:Int)+1)<=(cap:Int):=(by have:=Ai (aa xS);omega);have cz:w1.cell? ⟨g,ns.length,none⟩=some (.int .i64 (z:Int)):=(by have:=qA (l:=ns++[z]) hfs (aa xS) ns.length (by rw [aO,hfs];omega);rw [Nat.zero_add] at this;rw [this];simp [ay]))
  | (gi_at_call 159;refine (aa Nr _ (aa xS)).mono ?_;rintro e w2 ⟨rfl,rfl⟩)
  | (gi_at_call 115;refine (aa HBK _ _ _ _).mono ?_;rintro e w2 ⟨rfl,rfl⟩))
 have VL:=aa HG1
 have ady:Hid (Below w.heap.size w W3/\W3.grownBy w2 (some g)):=⟨aa HB3,VL⟩
 have hs2:w.heap.size+3<=w2.heap.size:=by have:=VL.size;omega
 have bT2:Boxed w2 w.heap.size 86 (.pointer (some ⟨t.tb,0,none⟩)):=(aa Ns).kept VL (by intro e;injection e with e;omega)
 have bK2:Boxed w2 (w.heap.size+1) 133 (.int .i64 (kk k)):=(aa aew).kept VL (by intro e;injection e with e;omega)
 have HT2:=CJ h (aa HB3) VL hg
 obtain ⟨Bn,hBn⟩:∃ Bn,w2.heap.size=Bn:=⟨_,rfl⟩
 have s4:(w2.alloc (.cells #[.int .i64 (z:Int)] 3)).heap.size=Bn+1:=by rw [World.size_alloc,hBn]
 have bN:=(Boxed.new w2 3 (.int .i64 (z:Int))).alloc (.cells #[.slice (some ⟨g,0,none⟩) ns.length cap] 31)
 have bS:=Boxed.new (w2.alloc (.cells #[.int .i64 (z:Int)] 3)) 31 (.slice (some ⟨g,0,none⟩) ns.length cap)
 have bT:=(bT2.alloc (.cells #[.int .i64 (z:Int)] 3)).alloc (.cells #[.slice (some ⟨g,0,none⟩) ns.length cap] 31)
 have bK:=(bK2.alloc (.cells #[.int .i64 (z:Int)] 3)).alloc (.cells #[.slice (some ⟨g,0,none⟩) ns.length cap] 31)
 rw [s4] at bS
 rw [hBn] at bN
 have kz:Hid (Below w2.heap.size w2 ((w2.alloc (.cells #[.int .i64 (z:Int)] 3)).alloc (.cells #[.slice (some ⟨g,0,none⟩) ns.length cap] 31))):=((Below.refl _ w2).alloc (Nat.le_refl _) _).alloc (by rw [s4];omega) _
 have hsz:((w2.alloc (.cells #[.int .i64 (z:Int)] 3)).alloc (.cells #[.slice (some ⟨g,0,none⟩) ns.length cap] 31)).heap.size=Bn+2:=by rw [World.size_alloc,s4]
 obtain ⟨W5,hW5⟩:∃ W5,(w2.alloc (.cells #[.int .i64 (z:Int)] 3)).alloc (.cells #[.slice (some ⟨g,0,none⟩) ns.length cap] 31)=W5:=⟨_,rfl⟩
 rw [hW5] at bN bS bT bK kz hsz ⊢
 rw [hBn]
 clear hW5 s4
 have ae8:w.heap.size+3<=Bn:=by omega
 have qY:=aX.below HT2 (aa kz)
 have Mf:Hid (a_ t t w2 W5):=a_.below (aa kz)
 have hnw:∀ i,w.heap.size<=i->¬ TF t i:=fun i hi=>aX.dS h hi
 have ae9:w2.heap.size<=W5.heap.size:=(aa kz).size
 have hkl:∀ i,(i=g\/i=Bn+1)->i<W5.heap.size:=fun i hi=>by rw [hsz];omega
 have hNs:VG W5 (fun i=>i=g\/i=Bn+1) (.slice (some ⟨g,0,none⟩) ns.length cap) ns:=.inr ⟨g,cap,rfl,.inl rfl,fun j hj=>by
  rw [(aa kz).cell (p:=⟨g,j,none⟩) (by show g<w2.heap.size;omega)]
  have:=qA (l:=ns++[z]) hfs (aa xS) j (by rw [aO,hfs];omega)
  rw [Nat.zero_add] at this
  rw [this]
  rw [R9 hj]⟩
 have hseq:=Kc 7 (by omega) (Bn+1) (fun i=>i=g\/i=Bn+1) (.slice (some ⟨g,0,none⟩) ns.length cap) ns (by omega) W5 (.inr rfl) hkl bS.cell hNs
 have hfn:Fence.wide.fn 84:=trivial
 have hg5:=aa qY
 have hnb:t.nb<W5.heap.size/\t.sb<W5.heap.size/\t.cb<W5.heap.size:=⟨hg5.foot (.inr (.inl rfl)),hg5.foot (.inr (.inr (.inl rfl))),hg5.foot (.inr (.inr (.inr (.inl rfl))))⟩
 refine wpIn_rangeFunc_ownH rfl (by omega) (gf:=162) (lb:=#[.pointer (some ⟨Bn+1,0,none⟩)]) rfl trivial (enters_of Tryz.func162 (by kernel_rfl) rfl)
  hseq LZ.trans (fun W l o o' hl ho hc1 hc2=>⟨by simp,fun i hi hil=>by
   have:=hkl i hi
   exact (grownBy_putObj' W l o').block i hil (fun e=>by cases e;omega)⟩) (Below.refl _ _) (fun _=>rfl)
  (JwI w2 W5 t S C k T z ns w.heap.size (w.heap.size+1) Bn (fun i=>i=g\/i=Bn+1)) (fun _ _ _=>False)
  (JwI.own hnb (aa Mf).size) (fun _ _ _ _ _ hs _ _=>hs)
  ⟨t,qY,Mf,⟨hnw _ (by omega),hnw _ (by omega),hnw _ (by omega),fun i hi=>hi.elim (fun e=>by rw [e];exact hg) (fun e=>hnw i (by omega))⟩,bN,bT,bK,Nat.le_refl _⟩
  (fun x a' _=>a'={ tmps:=#[(.pointer (some ⟨t.tb,0,none⟩)),(.int .i64 (kk k)),(.slice (some ⟨g,0,none⟩) (ns.length+1) cap),(.int .i64 iv),(.int .i64 rv),(.pointer (some ⟨w.heap.size,0,none⟩)),(.pointer (some ⟨w.heap.size+1,0,none⟩)),undef,(.pointer (some ⟨w.heap.size+1+1,0,none⟩)),undef,(.int .i64 0),(.int .i64 (ns.length:Int)),(.pointer (some ⟨Bn,0,none⟩)),undef,(.int .i64 (ns[x.val]:Int)),(.slice (some ⟨g,0,none⟩) ms.length cap),(.func (.func 158) #[] #[.pointer (some ⟨w.heap.size+1+1,0,none⟩)]),(.slice (some ⟨g,0,none⟩) (ns.length+1) cap),(.slice (some ⟨g,0,none⟩) (ns.length+1) cap),(.int .i64 ((ns.length:Int)+1)),(.bool false),undef,(.slice (some ⟨g,0,none⟩) (ns.length+1) cap),(.int .i64 rv),(.bool false),undef,(.slice (some ⟨g,0,none⟩) (ns.length+1) cap),(.int .i64 ((ns.length:Int)+1)),(.int .i64 (ns.length:Int)),(.slice (some ⟨g,0,none⟩) (ns.length+1) cap),(.int .i64 (ns.length:Int)),(.pointer (some ⟨g,ns.length,none⟩)),(.int .i64 (z:Int)),(.slice (some ⟨g,0,none⟩) (ns.length+1) cap),(.int .i64 (ns.length:Int)),(.slice (some ⟨g,0,none⟩) ns.length cap),(.func (.func 162) #[] #[.pointer (some ⟨Bn+1,0,none⟩)]),(.int .i64 (x.val:Int)),(.int .i64 (ns[x.val]:Int)),undef,undef,undef,undef,undef,undef,undef],defers:=[] })
  (fun x a' _ X Y row hs hg hr=>hs)
  ?assign ?body ?done ?stop
 case assign=>
  intro l pre x W K hI hK
  simp only [VI]
  gi_wp2
  exact hK _ _ (KeepsFrom.refl _ _) (LZ.refl _ _) hI rfl
 case body=>
  rintro l pre x a' W hl' - ⟨t',H1,H2,⟨a1,a2,a3,a4⟩,b4,b5,b5',b6⟩ rfl hlt
  obtain ⟨hE,hEl⟩:=aaP (k:=k) hw (aa Zj z (by simp)) (fun y hy=>aa Zj y (List.mem_append_left _ hy)) pre
  obtain ⟨hE2,Nl⟩:=aaP (k:=k) hw (aa Zj z (by simp)) (fun y hy=>aa Zj y (List.mem_append_left _ hy)) (pre++[x])
  have hxl:ns[x.val]<T.length:=aa Zj _ (List.mem_append_left _ (List.getElem_mem _))
  have hlen:=hE.len
  have hpl:(pre++[x]).length=pre.length+1:=by simp
  rw [Px,hpl] at Nl
  have hlt2:=hE.lt
  have hCH:=lQ (S:=S) (C:=C) H1 (Zi (k:=k) (i:=ns[x.val]) (j:=(JP k T z ns pre).2) (by omega) (by omega)) (Py (by omega) hE.lt) (Nat.le_trans Nl (by omega))
  rw [(aa H2).tb] at hCH
  have HSN:=hide (Px k T z ns pre x)
  rw [show dP (JP k T z ns pre).1 (bW k ns[x.val] (JP k T z ns pre).2)=JP k T z ns (pre++[x]) from (aa HSN).symm] at hCH
  have Nn:=hide ((callsIn_wide (n:=5)).2 hCH)
  unfold iD bW at Nn
  dsimp only at Nn
  clear hCH HSN hE hEl hE2 Nl hxl hlen hlt2
  have cT:=b5.cell
  have cK:=b5'.cell
  have cN:=b4.cell
  generalize ns[x.val]=nx at *
  generalize (JP k T z ns pre).2=r0 at *
  obtain ⟨r1,hr1⟩:∃ r1,(JP k T z ns (pre++[x])).2=r1:=⟨_,rfl⟩
  gi_wp2_with (gi_at_call 84;refine (aa Nn).mono ?_;clear Nn;rintro e w3 ⟨rfl,t2,HT2',HF2'⟩;have c4:=hide ((aa HF2').block _ b4.lt a3);have b4':Boxed w3 Bn 3 (.int .i64 (r0:Int)):=(aa c4).trans b4;have f4:=b4'.frozen;have c4':=b4'.cell)
  have g2:=aa HF2'
  have h2:=aa H2
  have gs:=grownBy_setCell' w3 Bn (.int .i64 (r1:Int))
  have hN':Bn<W.heap.size:=b4.lt
  have hft':∀ i,i<W.heap.size->¬ TF t' i->¬ TF t2 i:=fun i hi hn' hf'=>(g2.foot hf').elim hn' (fun e=>by omega)
  have hsW:=g2.size
  refine ⟨⟨Nat.le_trans hsW gs.size,fun i o hi ho hc=>?_⟩,⟨Nat.le_trans hsW gs.size,fun i hi hil=>?_⟩,⟨t2,hide ((aa HT2').move (fun i hi hil=>jZ _ _ _ hil (fun e=>hft' _ hN' a3 (e▸hi)))),hide ?_,⟨hft' _ (by omega) a1,hft' _ (by omega) a2,hft' _ hN' a3,fun i hi=>hft' _ (by have:=hkl i hi;omega) (a4 i hi)⟩,?_,?_,?_,?_⟩⟩
  ·have hil:i<W.heap.size:=(Array.getElem?_eq_some_iff.1 ho).1
   rw [jZ _ _ _ (by omega) (by omega),g2.block i hil (TF.cells (aa H1) h2 hnb hi ho hc)]
   exact ho
  ·have hne':i≠Bn:=by omega
   rw [jZ _ _ _ (by omega) hne']
   exact g2.block i hil (a4 i hi)
  ·have hh:=h2.trans g2
   exact ⟨hh.os,hh.tape,hh.output,Nat.le_trans hh.size gs.size,fun i hi hf'=>(jZ _ _ _ (by have:=hh.size;omega) (by omega)).trans (hh.block i hi hf'),hh.tb,hh.nb,hh.sb,hh.cb,hh.row⟩
  ·rw [hr1];exact b4'.set _
  ·have:Boxed w3 w.heap.size 86 (.pointer (some ⟨t.tb,0,none⟩)):=(g2.block _ b5.lt a1).trans b5
   exact this.other (by omega) _
  ·have:Boxed w3 (w.heap.size+1) 133 (.int .i64 (kk k)):=(g2.block _ b5'.lt a2).trans b5'
   exact this.other (by omega) _
  ·exact Nat.le_trans b6 (Nat.le_trans hsW gs.size)
 case done=>
  rintro D ys W hD rfl ⟨t',H1,H2,-,b4,b5,b5',b6⟩ hK
  rw [abQ] at H1 b4
  have cN:=b4.cell
  obtain ⟨R,hR⟩:∃ R,joinL T k (ns++[z])=R:=⟨_,rfl⟩
  rw [hR] at H1 b4 cN ⊢
  gi_wp2
  subst hR
  refine ⟨by simp,.inl ⟨_,_,rfl,run_takeDeferred hK,?_⟩⟩
  have hDn:¬ TF t' D:=TF.cells (aa H1) (aa H2) hnb hD hK rfl
  have hg2:=grownBy_putObj' W D (.deferred none)
  refine ⟨_,results_tmp rfl _ _ _,rfl,t',hide ((aa H1).move fun i hi hil=>hg2.block i hil (fun e=>by cases e;exact hDn hi)),hide (Np.of (aa ady).1 (aa ady).2 ?_)⟩
  have h2:=aa H2
  exact ⟨hg2.os.trans h2.os,hg2.tape.trans h2.tape,hg2.output.trans h2.output,Nat.le_trans h2.size hg2.size,fun i hi hf'=>(hg2.block i (by have:=h2.size;omega) (fun e=>by cases e;omega)).trans (h2.block i hi hf'),h2.tb,h2.nb,h2.sb,h2.cb,h2.row⟩
 case stop=>
  rintro D c pre W _ _ hF _
  exact hF.elim
theorem Zk {l:List Nat} (h:l≠[]):∃ ns z,l=ns++[z]:=⟨l.dropLast,l.getLast h,(List.dropLast_concat_getLast h).symm⟩
theorem wZ (h:Hid (aX w t T (ak T) S C)) (hw:uI T) (hin:∀ x∈ms,x<T.length) (hN:ms.length<=1000000000000) (hL:dF k∉ms.filter (fun m=>decide (m≠aY k))->T.length+(ms.filter fun m=>decide (m≠aY k)).length<=fU/\(ms.filter fun m=>decide (m≠aY k)).length<=1000000) (ho:w.ownsRow 0 3 1 (.slice (some ⟨g,0,none⟩) ms.length cap) ms.length (ints (ay ms))) (hg:¬ TF t g) :
  Calls Tryz.prog 113 #[.pointer (some ⟨t.tb,0,none⟩),.int .i64 (kk k),.slice (some ⟨g,0,none⟩) ms.length cap,.int .i64 (aY k:Int),.int .i64 (dF k:Int)] w (Zh (iF T k ms) g w t S C):=by
 unfold iF
 split
 ·rename_i e
  exact R8 h e hN ho hg
 ·rename_i e
  split
  ·rename_i e2
   exact Nq h e2 hN ho hg
  ·rename_i e2
   obtain ⟨ns,z,e3⟩:=Zk e
   have hL':=hL e2
   rw [e3] at e2 hL' ⊢
   exact R_ h hw e3 e2 (fun x hx=>hin x (List.mem_filter.1 (by rw [e3];exact hx)).1) hN hL'.2 (by have:=hL'.1;rw [List.length_append] at this;simp at this;omega) ho hg
end
end Go.Proofs.YtfolanohokflkaaGreatDoor
namespace Go.Proofs.YtfolanohokflkaaGreatDoor
open Go.RowKit
theorem Nt {a:af} (h:Tidy a):iM a=a:=iL (iN h.pos) h fun _ hc=>o8 h.pos hc
set_option maxRecDepth 100000 in
set_option maxHeartbeats 4000000 in
theorem Fa (w:World) (a b:af) (ha:a.length<=490) (hb:b.length<=490) (VM:Tidy a) (htb:Tidy b) :
  Calls Tryz.prog 114 #[.string (encS a),.string (encS b)] w fun e w'=>e=.returned (.string (encS (qR a b)))/\Hid (Below w.heap.size w w'):=by
 have HP:=hide (jM w a (by omega) (bA VM))
 have OT:=hide (fun w2=>jM w2 b (by omega) (bA htb))
 have hgood:∀ p∈a++b,jw p:=fun p hp=>(List.mem_append.1 hp).elim (bA VM p) (bA htb p)
 have Gb:iM (a++b)=qR a b:=by
  rw [<-BQ (bA VM) (bA htb)]
  congr 1
  exact Nt VM
 have hlen:(a++b).length=a.length+b.length:=List.length_append
 have HSO:=hide (fun w3 sv (hI:vQ w3.heap.size w3 sv (a++b))=>o_ w3 sv (a++b) (by omega) hI hgood)
 rw [Gb] at HSO
 generalize encS a=sa at HP
 generalize encS b=sb at OT
 generalize encS (qR a b)=sc at HSO ⊢
 clear VM htb hgood Gb
 go_enter Tryz.func114,Tryz.ntmps114
 go_wp2_with (first
  | (go_at_call 161;refine (aa HP).mono ?_;clear HP;rintro e w1 ⟨v1,rfl,hrow,hb1⟩;have HB1:=hide hb1;have HR1:=hide hrow;clear hrow hb1)
  | (go_at_call 161;refine (aa OT _).mono ?_;clear OT;rintro e w3 ⟨v3,rfl,hrow,hb3⟩;have HB3:=hide hb3;have HR3:=hide hrow;clear hrow hb3;have HR1':=hide (own_below (aa HR1) (aa HB3) (Nat.le_refl _));have hs3:w.heap.size<=w3.heap.size:=Nat.le_trans (aa HB1).size (aa HB3).size)
  | (at_builtin;refine JZ w.heap.size w1.heap.size w3 a b v1 v3 (.tmp 6) (.tmp 8) rfl rfl rfl rfl HR1' HR3 hs3 (by omega) ?_;intro ao4 n4 cap4 w4 z8 YJ)
  | (go_at_call 160;refine (aa HSO w4 _ (ni (aa z8))).mono ?_;clear HSO;rintro e w5 ⟨rfl,hb5⟩;have kz:=hide hb5;clear hb5))
 go_ret
 refine ⟨rfl,?_⟩
 have b1:=aa HB1
 have b3:=b1.trans ((aa HB3).mono b1.size)
 have b4:=below_grown b3 (aa HR1') (aa YJ) hs3
 exact b4.trans ((aa kz).mono b4.size)
theorem Zl {a b:af} (ha:Tidy a) (hb:Tidy b):fE (qR (fE a) (fE b))=Iu a b:=by
 have h1:=dC (a:=a) ha.pos
 have h2:=dC (a:=b) hb.pos
 have h3:=iY h1.pos h2.pos
 refine iL (dC h3.pos) (xN ha.pos hb.pos) fun c hc=>?_
 rw [kE h3.pos hc,og h1.pos h2.pos hc,kE ha.pos hc,kE hb.pos hc,vT ha.pos hb.pos hc]
 cases dw a c<;>cases dw b c<;>rfl
set_option maxRecDepth 100000 in
set_option maxHeartbeats 4000000 in
theorem Nu (w:World) (a b:af) (ha:a.length<=490/\(fE a).length<=490) (hb:b.length<=490/\(fE b).length<=490) (hc:(qR (fE a) (fE b)).length<=900) (VM:Tidy a) (htb:Tidy b) :
  Calls Tryz.prog 112 #[.string (encS a),.string (encS b)] w fun e w'=>e=.returned (.string (encS (Iu a b)))/\Hid (Below w.heap.size w w'):=by
 have h1:=dC (a:=a) VM.pos
 have h2:=dC (a:=b) htb.pos
 have xS:=hide (nk w a (by omega) VM)
 have jh:=hide (fun w2=>nk w2 b (by omega) htb)
 have HU:=hide (fun w3=>Fa w3 (fE a) (fE b) ha.2 hb.2 h1 h2)
 have qg:=hide (fun w4=>nk w4 (qR (fE a) (fE b)) hc (iY h1.pos h2.pos))
 rw [Zl VM htb] at qg
 clear h1 h2 VM htb hc
 generalize encS a=sa at *
 generalize encS b=sb at *
 generalize encS (fE a)=sa2 at *
 generalize encS (fE b)=Tx at *
 generalize encS (qR (fE a) (fE b))=sc at *
 generalize encS (Iu a b)=sd at *
 go_enter Tryz.func112,Tryz.ntmps112
 go_wp2_with (first
  | (go_at_call 156;refine (aa xS).mono ?_;clear xS;rintro e w1 ⟨rfl,hb1⟩;have HB1:=hide hb1;clear hb1)
  | (go_at_call 156;refine (aa jh _).mono ?_;clear jh;rintro e w2 ⟨rfl,hb2⟩;have HB2:=hide hb2;clear hb2)
  | (go_at_call 114;refine (aa HU _).mono ?_;clear HU;rintro e w3 ⟨rfl,HB3⟩)
  | (go_at_call 156;refine (aa qg _).mono ?_;clear qg;rintro e w4 ⟨rfl,hb4⟩;have qh:=hide hb4;clear hb4))
 go_ret
 refine ⟨rfl,?_⟩
 have b1:=aa HB1
 have b2:=b1.trans ((aa HB2).mono b1.size)
 have b3:=b2.trans ((aa HB3).mono b2.size)
 exact b3.trans ((aa qh).mono b3.size)
theorem VN (B:List Int) (hB:B.length<=480) (w:World) (a b:af) (ha:Tidy a) (ha2:bU B a) (hb:Tidy b) (hb2:bU B b) :
  Calls Tryz.prog 114 #[.string (encS a),.string (encS b)] w fun e w'=>e=.returned (.string (encS (gI false a b)))/\Hid (Below w.heap.size w w'):=by
 have h1:=fQ ha ha2
 have h2:=fQ hb hb2
 exact Fa w a b (by omega) (by omega) ha hb
theorem Zm (B:List Int) (hB:B.length<=480) (w:World) (a b:af) (ha:Tidy a) (ha2:bU B a) (hb:Tidy b) (hb2:bU B b) :
  Calls Tryz.prog 112 #[.string (encS a),.string (encS b)] w fun e w'=>e=.returned (.string (encS (gI true a b)))/\Hid (Below w.heap.size w w'):=by
 have h1:=fQ ha ha2
 have h2:=fQ hb hb2
 have t1:=dC (a:=a) ha.pos
 have t2:=dC (a:=b) hb.pos
 have h3:=fQ (iY t1.pos t2.pos) (yl t1.pos t2.pos (tT ha.pos ha2) (tT hb.pos hb2))
 exact Nu w a b (by omega) (by omega) (by omega) ha hb
set_option maxRecDepth 100000 in
set_option maxHeartbeats 4000000 in
theorem Nv (B:List Int) (hB:B.length<=480) (w:World) (g cap:Nat) (s:af) (r:List af) (hc:∀ j x,(s::r)[j]? = some x->w.cell? ⟨g,j,none⟩=some (.string (encS x))) (hcap:r.length+1<=cap) (hlt:g<w.heap.size) (hn:r.length<=1000000000000) (hs:∀ x∈s::r,Tidy x/\bU B x) :
  Calls Tryz.prog 111 #[.slice (some ⟨g,0,none⟩) (r.length+1) cap,fv 114] w fun e w'=>e=.returned (.string (encS (r.foldl (gI false) s)))/\Hid (Below w.heap.size w w'):=by
 have HW:=hide (fun w a b (ha:Tidy a/\bU B a) (hb:Tidy b/\bU B b)=>VN B hB w a b ha.1 ha.2 hb.1 hb.2)
 have hcf:∀ (args:Array Value) (w:World),(callFunc 114 args).run Tryz.prog w=.ok (.enter 114 args) w:=aL Tryz.func114 (by kernel_rfl) (by kernel_rfl)
 have c0:=hc 0 s rfl
 have HC:=hide hc
 have HS:=hide hs
 have hcI:(1:Int)<=((r.length:Int)+1):=by omega
 have aex:((r.length:Int)+1)<=(cap:Int):=by omega
 clear hc hs
 go_enter Tryz.func111,Tryz.ntmps111
 go_wp2_with fail
 ·have hr0:r.length=0:=by omega
  go_loopw [5,14] (fun m i wr=>∃ k:Nat,k<=r.length/\i=.int .i64 (k:Int)/\Hid (m=.string (encS ((r.take k).foldl (gI false) s)))/\Hid (Below w.heap.size w wr)) (fun _ i _=>r.length - (intOf i).toNat)
  case atStart=>exact ⟨0,Nat.zero_le _,rfl,rfl,Below.refl _ _⟩
  case round=>
   obtain ⟨k,hk,rfl,HM,HB⟩:=hrel
   obtain rfl:=aa HM
   by_cases hlt2:k<r.length
   ·exact absurd hlt2 (by omega)
   ·obtain rfl:k=r.length:=by omega
    rw [List.take_length]
    go_wp2_with fail
    go_ret
    exact ⟨rfl,HB⟩
 ·go_loopw [5,14] (fun m i wr=>∃ k:Nat,k<=r.length/\i=.int .i64 (k:Int)/\Hid (m=.string (encS ((r.take k).foldl (gI false) s)))/\Hid (Below w.heap.size w wr)) (fun _ i _=>r.length - (intOf i).toNat)
  case atStart=>exact ⟨0,Nat.zero_le _,rfl,rfl,Below.refl _ _⟩
  case round=>
   obtain ⟨k,hk,rfl,HM,HB⟩:=hrel
   obtain rfl:=aa HM
   by_cases hlt2:k<r.length
   ·have hx:(s::r)[k+1]? = some r[k]:=by simp [hlt2]
    have cx:=aa HC (k+1) _ hx
    rw [<-(aa HB).cell (p:=⟨g,k+1,none⟩) hlt] at cx
    have cx2:wr.cell? ⟨g,1+k,none⟩=some (.string (encS r[k])):=by rw [Nat.add_comm];exact cx
    have HT:Hid (r.take (k+1)=r.take k++[r[k]]):=List.take_succ_eq_append_getElem hlt2
    have hx2:=aa HS r[k] (List.mem_cons_of_mem _ (List.getElem_mem _))
    have hfo:=jQ (B:=B) (k:=false) (l:=r.take k) (s:=s) (fun x hx=>aa HS x (List.mem_cons_of_mem _ (List.mem_of_mem_take hx))) (aa HS s (List.mem_cons_self ..)).1 (aa HS s (List.mem_cons_self ..)).2
    have Kk:=hide (fun w'=>aa HW w' _ _ hfo hx2)
    have CO:Hid (encS (gI false ((r.take k).foldl (gI false) s) r[k])=encS ((r.take (k+1)).foldl (gI false) s)):=by
     show _=_
     rw [aa HT,List.foldl_append];rfl
    clear hx cx hx2 hfo
    generalize encS ((r.take k).foldl (gI false) s)=e1 at *
    generalize encS (gI false ((r.take k).foldl (gI false) s) r[k])=e2 at *
    generalize encS r[k]=e3 at *
    have LY:(k:Int)<(r.length:Int):=by omega
    go_wp2_with (go_at_call 114;refine (aa Kk _).mono ?_;clear Kk;rintro e w2 ⟨rfl,HB2⟩)
    go_roundw
    case rel=>exact ⟨k+1,by omega,by go_num,by show _=_;rw [aa CO],(aa HB).trans ((aa HB2).mono (aa HB).size)⟩
    case measure=>simp [intOf];omega
   ·obtain rfl:k=r.length:=by omega
    rw [List.take_length]
    go_wp2_with fail
    go_ret
    exact ⟨rfl,HB⟩
set_option maxRecDepth 100000 in
set_option maxHeartbeats 4000000 in
theorem Sa (B:List Int) (hB:B.length<=480) (w:World) (g cap:Nat) (s:af) (r:List af) (hc:∀ j x,(s::r)[j]? = some x->w.cell? ⟨g,j,none⟩=some (.string (encS x))) (hcap:r.length+1<=cap) (hlt:g<w.heap.size) (hn:r.length<=1000000000000) (hs:∀ x∈s::r,Tidy x/\bU B x) :
  Calls Tryz.prog 111 #[.slice (some ⟨g,0,none⟩) (r.length+1) cap,fv 112] w fun e w'=>e=.returned (.string (encS (r.foldl (gI true) s)))/\Hid (Below w.heap.size w w'):=by
 have HW:=hide (fun w a b (ha:Tidy a/\bU B a) (hb:Tidy b/\bU B b)=>Zm B hB w a b ha.1 ha.2 hb.1 hb.2)
 have hcf:∀ (args:Array Value) (w:World),(callFunc 112 args).run Tryz.prog w=.ok (.enter 112 args) w:=aL Tryz.func112 (by kernel_rfl) (by kernel_rfl)
 have c0:=hc 0 s rfl
 have HC:=hide hc
 have HS:=hide hs
 have hcI:(1:Int)<=((r.length:Int)+1):=by omega
 have aex:((r.length:Int)+1)<=(cap:Int):=by omega
 clear hc hs
 go_enter Tryz.func111,Tryz.ntmps111
 go_wp2_with fail
 ·have hr0:r.length=0:=by omega
  go_loopw [5,14] (fun m i wr=>∃ k:Nat,k<=r.length/\i=.int .i64 (k:Int)/\Hid (m=.string (encS ((r.take k).foldl (gI true) s)))/\Hid (Below w.heap.size w wr)) (fun _ i _=>r.length - (intOf i).toNat)
  case atStart=>exact ⟨0,Nat.zero_le _,rfl,rfl,Below.refl _ _⟩
  case round=>
   obtain ⟨k,hk,rfl,HM,HB⟩:=hrel
   obtain rfl:=aa HM
   by_cases hlt2:k<r.length
   ·exact absurd hlt2 (by omega)
   ·obtain rfl:k=r.length:=by omega
    rw [List.take_length]
    go_wp2_with fail
    go_ret
    exact ⟨rfl,HB⟩
 ·go_loopw [5,14] (fun m i wr=>∃ k:Nat,k<=r.length/\i=.int .i64 (k:Int)/\Hid (m=.string (encS ((r.take k).foldl (gI true) s)))/\Hid (Below w.heap.size w wr)) (fun _ i _=>r.length - (intOf i).toNat)
  case atStart=>exact ⟨0,Nat.zero_le _,rfl,rfl,Below.refl _ _⟩
  case round=>
   obtain ⟨k,hk,rfl,HM,HB⟩:=hrel
   obtain rfl:=aa HM
   by_cases hlt2:k<r.length
   ·have hx:(s::r)[k+1]? = some r[k]:=by simp [hlt2]
    have cx:=aa HC (k+1) _ hx
    rw [<-(aa HB).cell (p:=⟨g,k+1,none⟩) hlt] at cx
    have cx2:wr.cell? ⟨g,1+k,none⟩=some (.string (encS r[k])):=by rw [Nat.add_comm];exact cx
    have HT:Hid (r.take (k+1)=r.take k++[r[k]]):=List.take_succ_eq_append_getElem hlt2
    have hx2:=aa HS r[k] (List.mem_cons_of_mem _ (List.getElem_mem _))
    have hfo:=jQ (B:=B) (k:=true) (l:=r.take k) (s:=s) (fun x hx=>aa HS x (List.mem_cons_of_mem _ (List.mem_of_mem_take hx))) (aa HS s (List.mem_cons_self ..)).1 (aa HS s (List.mem_cons_self ..)).2
    have Kk:=hide (fun w'=>aa HW w' _ _ hfo hx2)
    have CO:Hid (encS (gI true ((r.take k).foldl (gI true) s) r[k])=encS ((r.take (k+1)).foldl (gI true) s)):=by
     show _=_
     rw [aa HT,List.foldl_append];rfl
    clear hx cx hx2 hfo
    generalize encS ((r.take k).foldl (gI true) s)=e1 at *
    generalize encS (gI true ((r.take k).foldl (gI true) s) r[k])=e2 at *
    generalize encS r[k]=e3 at *
    have LY:(k:Int)<(r.length:Int):=by omega
    go_wp2_with (go_at_call 112;refine (aa Kk _).mono ?_;clear Kk;rintro e w2 ⟨rfl,HB2⟩)
    go_roundw
    case rel=>exact ⟨k+1,by omega,by go_num,by show _=_;rw [aa CO],(aa HB).trans ((aa HB2).mono (aa HB).size)⟩
    case measure=>simp [intOf];omega
   ·obtain rfl:k=r.length:=by omega
    rw [List.take_length]
    go_wp2_with fail
    go_ret
    exact ⟨rfl,HB⟩
theorem Kl (c:Int):(Utf8.encode c).size<=4:=by
 unfold Utf8.encode
 simp only
 repeat' split
 all_goals simp [ByteArray.size]
theorem CP:∀ l:List Int,(runesBytes l).size<=4*l.length
 | []=>by simp [runesBytes]
 | c::l=>by
  have:=CP l
  have:=Kl c
  rw [mh,ByteArray.size_append,List.length_cons]
  omega
theorem yB (l:af):(encS l).size<=8*l.length:=by
 have:=CP (bD l)
 rw [fF] at this
 unfold encS
 omega
theorem GL {w w':World} {t t':TB} {base e size n:Nat} {v:Value} {xs:List Value} (h:w.ownsRow base e size v n xs) (hf:a_ t t' w w') (ha:∀ k,v.ownBlock=some k->¬ TF t k):w'.ownsRow base e size v n xs:=by
 obtain ⟨hl,hx | ⟨g,cap,cur,rfl,hb,hgr,rest⟩⟩:=h
 ·exact ⟨hl,.inl hx⟩
 ·exact ⟨hl,.inr ⟨g,cap,cur,rfl,hb,(hf.block g (Array.getElem?_eq_some_iff.1 hgr).1 (ha g rfl)).trans hgr,rest⟩⟩
theorem GM {w w4 w5:World} {t t4:TB} {T:List Te} {N S C:List (Value×Value)} (h:aX w4 t4 T N S C) (hf:a_ t t4 w w4) (hlt:∀ k,TF t k->k<w.heap.size) (hb:Below w.heap.size w4 w5) (hk:∀ B' e' s' u m ys,e'≠3->w4.ownsRow B' e' s' u m ys->w5.ownsRow B' e' s' u m ys):aX w5 t4 T N S C:=by
 have b1:=hlt t.tb (.inl rfl)
 have b2:=hlt t.nb (.inr (.inl rfl))
 have b3:=hlt t.sb (.inr (.inr (.inl rfl)))
 have b4:=hlt t.cb (.inr (.inr (.inr (.inl rfl))))
 exact ⟨(hb.block _ (by rw [hf.tb];exact b1)).trans h.tb,(hb.block _ (by rw [hf.nb];exact b2)).trans h.nb,(hb.block _ (by rw [hf.sb];exact b3)).trans h.sb,(hb.block _ (by rw [hf.cb];exact b4)).trans h.cb,hk _ _ _ _ _ _ (by decide) h.row,h.ne,h.nr,h.ok,h.nd⟩
theorem w_ {w w4 w5:World} {t t4:TB} (hf:a_ t t4 w w4) (hb:Below w.heap.size w4 w5):a_ t t4 w w5:=
 ⟨hb.os.trans hf.os,hb.tape.trans hf.tape,hb.output.trans hf.output,Nat.le_trans hf.size hb.size,fun k hk hn=>(hb.block k hk).trans (hf.block k hk hn),hf.tb,hf.nb,hf.sb,hf.cb,hf.row⟩
theorem xg {w:World} {t:TB} {T:List Te} {N S C:List (Value×Value)} (h:aX w t T N S C) {base g n cap:Nat} {xs:List Value} (ho:w.ownsRow base 3 1 (.slice (some ⟨g,0,none⟩) n cap) n xs):¬ TF t g:=by
 obtain ⟨_,⟨hv,_⟩ | ⟨g',cap',cur,hv,_,hgr,_⟩⟩:=ho
 ·cases hv
 ·injection hv with e1
  injection e1 with e1
  injection e1 with e1
  subst e1
  rintro (rfl | rfl | rfl | rfl | e)
  ·have:=h.tb;rw [hgr] at this;injection this with q;injection q with _ q;exact absurd q (by decide)
  ·have:=h.nb;rw [hgr] at this;cases this
  ·have:=h.sb;rw [hgr] at this;cases this
  ·have:=h.cb;rw [hgr] at this;cases this
  ·obtain ⟨_,hx | ⟨g2,cap2,aey,hv2,_,hg2,_⟩⟩:=h.row
   ·have:t.ta=none:=by injection hx.1
    simp [TB.row,this] at e
   ·injection hv2 with e2
    simp [TB.row,e2] at e
    subst e
    rw [hgr] at hg2
    injection hg2 with q
    injection q with _ q
    exact absurd q (by decide)
section
variable {B:List Int} {w:World} {t:TB} {T:List Te} {S C:List (Value×Value)}
set_option maxRecDepth 100000 in
set_option maxHeartbeats 8000000 in
theorem VO {l:List Nat} {ts:List Tm} {g0 cap0:Nat} (h:Hid (aX w t T (ak T) S C)) (hT:TI B T) (hB:B.length<=480) (hr:g_ T l ts) (hne:l≠[]) (hln:l.length<=500000) (nR:∀ t∈ts,(memT false t).length<=200000) (Sb:(memT false (aj false ts)).length<=200000) (hlim:T.length+(memT false (aj false ts)).length+2<=fU)
  (hc:∀ j x,(ay l)[j]? = some x->w.cell? ⟨g0,j,none⟩=some (.int .i64 x)) (hg0:g0<w.heap.size) :
  Calls Tryz.prog 79 #[.pointer (some ⟨t.tb,0,none⟩),.slice (some ⟨g0,0,none⟩) l.length cap0] w fun e w'=>∃ R,Op B T R (aj false ts) ((memT false (aj false ts)).length+1)/\(∀ r,l=[r]->R=(T,r))/\FO R w t S C e w':=by
 have hJ:=hT.toTJ
 have qN:∀ n∈l,∃ t,Rp T n t/\t∈ts:=fun n hn=>by
  obtain ⟨t,ht,_⟩:=hT.all n (hr.lt n hn)
  exact ⟨t,ht,hr.mem.2 ⟨n,hn,ht⟩⟩
 have hsp:∀ n∈l,ky T false n (gG T false n)/\(gG T false n).length<=200000:=fun n hn=>by
  obtain ⟨t,ht,htm⟩:=qN n hn
  have h1:=Ag (k:=false) ht
  exact ⟨h1,Nat.le_trans (Ah hT ht h1) (nR t htm)⟩
 have qM:(l.flatMap (gG T false)).length<=100000000000:=by
  have h1:=Cy (b:=200000) fun n hn=>(hsp n hn).2
  have h2:l.length*200000<=500000*200000:=Nat.mul_le_mul_right _ hln
  omega
 have hSL:=yz (k:=false) (T:=T) (l:=l) fun n hn=>(hsp n hn).1
 have Nw:=hSL.kinds hJ
 obtain ⟨L,Nh,Zn,Po⟩:=E9 (l.flatMap (gG T false))
 have HM:=hide (ze (cap0:=cap0) h hT.wf (fun n hn=>⟨(hsp n hn).1,by have:=(hsp n hn).2;omega⟩) hne (by omega) hc hg0 qM (fun m hm=>by
  obtain ⟨x,hx,_⟩:=Nw m hm
  exact (List.getElem?_eq_some_iff.1 hx).1) Nh)
 have XY:=hide qM
 have abR:Hid (∃ m,m∈l.flatMap (gG T false)):=by
  obtain ⟨a,r,rfl⟩:∃ a r,l=a::r:=by cases l with
   | nil=>exact absurd rfl hne
   | cons a r=>exact ⟨a,r,rfl⟩
  have:=(hsp a (List.mem_cons_self ..)).1.ne
  obtain ⟨x,y,e⟩:∃ x y,gG T false a=x::y:=by
   cases hq:gG T false a with
   | nil=>exact absurd hq this
   | cons x y=>exact ⟨x,y,rfl⟩
  exact ⟨x,by rw [List.flatMap_cons,e];simp⟩
 have Zo:=hide hSL
 have HKN:=hide Nw
 have HR:=hide hr
 have adz:1<=(memT false (aj false ts)).length:=by
  cases hq:memT false (aj false ts) with
  | nil=>exact absurd hq (v_ _ _)
  | cons _ _=>simp
 clear hc hg0 hne hln nR qN hsp qM hSL Nw hr
 have aaM:L.length<=(l.flatMap (gG T false)).length:=il (Zn.imp fun q e=>by omega) fun m hm=>(Po m).1 hm
 obtain ⟨ss,hs1,hs2,hs3⟩:=GK hT (L:=L.filter fun m=>aW T m) fun m hm=>(List.mem_filter.1 hm).2
 have l_:=hide (Vy hT (aa HR) (aa Zo) Zn Po hs1 fun s hs=>(hs3 s hs).1)
 have Zp:Hid (∀ r,l=[r]->Y4 T false L (fG false ss)=(T,r)):=fun r e=>by
  subst e
  cases aa HR with
  | cons h1 _=>exact Kb hT (Ag (k:=false) h1) Zn (fun m=>by rw [Po m];simp) hs1
 have hsl:(L.filter fun m=>aW T m).length=ss.length:=by
  have:=congrArg List.length hs2
  simpa using this
 rw [hs2,hsl] at HM
 have hkind:∀ m∈L,∃ x,T[m]? = some x/\x.1.kd≠kk false:=fun m hm=>aa HKN m ((Po m).1 hm)
 have hns:∀ m∈L.filter (fun m=>!aW T m),¬ Na T m:=fun m hm q=>by
  have:=(List.mem_filter.1 hm).2
  rw [l8.2 q] at this;cases this
 have hbf:(L.filter fun m=>!aW T m).Pairwise (Bf T):=(Zn.filter _).imp_of_mem fun {a b} ha hb q=>⟨hns a ha,.inr q⟩
 have hM:MOk T false (L.filter fun m=>!aW T m):=⟨fun m hm=>hkind m (List.mem_filter.1 hm).1,hbf⟩
 have hfl:=aa XY
 have hex:∀ m∈L,∃ t,Rp T m t:=fun m hm=>by
  obtain ⟨x,hx,_⟩:=hkind m hm
  obtain ⟨y,hy,_⟩:=hJ.all m (List.getElem?_eq_some_iff.1 hx).1
  exact ⟨y,hy⟩
 obtain ⟨zs,hzs⟩:=g_.of (T:=T) (l:=L.filter fun m=>!aW T m) fun m hm=>hex m (List.mem_filter.1 hm).1
 have TS:=hide (fun i (hi:TF t i)=>(aa h).foot hi)
 have hin:∀ m∈L.filter (fun m=>!aW T m),m<T.length:=hzs.lt
 have hNl:(L.filter fun m=>!aW T m).length<=100000000000:=Nat.le_trans (List.length_filter_le _ _) (by omega)
 have Hw:=hide hM
 have HNS:=hide hns
 have HZS:=hide hzs
 have Zj:=hide hin
 have hGm:=hlim
 obtain ⟨m0,hm0⟩:=aa abR
 have VP:=(Po m0).2 hm0
 clear hM hns hzs hbf hkind hex hs1 hs2 HKN XY Zo
 cases ss with
 | nil=>
  have VQ:0<(L.filter fun m=>!aW T m).length:=by
   have:m0∈L.filter fun m=>!aW T m:=List.mem_filter.2 ⟨VP,by
    cases hb:aW T m0 with
    | false=>rfl
    | true=>
     have hq:m0∈L.filter fun m=>aW T m:=List.mem_filter.2 ⟨VP,hb⟩
     rw [List.eq_nil_of_length_eq_zero hsl] at hq
     cases hq⟩
   exact List.length_pos_of_mem this
  have hop:=aa l_
  have hj0:=tV hT (aa Hw) (aa HZS)
  have e1:aj false ts=aj false zs:=hop.rp.uniq hj0.rp
  have Ny:=hide (fun (w2:World) (g1 pq:Nat) (hb2:Below w.heap.size w w2) (ho1:w2.ownsRow w.heap.size 3 1 (.slice (some ⟨g1,0,none⟩) (L.filter fun m=>!aW T m).length pq) (L.filter fun m=>!aW T m).length (ints (ay (L.filter fun m=>!aW T m)))) (GN:w.heap.size<=g1)=>wZ (k:=false) (cap:=pq) (aX.below h hb2) hT.wf (aa Zj) (by omega) (fun hz=>by
   have:=wY hT (aa Hw) (aa HZS) hz
   rw [<-e1] at this
   omega) (dU ho1 (Nat.zero_le _)) (aX.dS h GN))
  clear hj0 e1 hop
  rw [show ((aY false:Nat):Int)=0 from rfl,show ((dF false:Nat):Int)=2 from rfl,show kk false=4 from rfl] at Ny
  simp only [List.length_nil] at HM
  have Nz:Hid (Op B T (iF T false (L.filter fun m=>!aW T m)) (aj false ts) ((memT false (aj false ts)).length+1)):=l_
  have NA:Hid (∀ r0,l=[r0]->(iF T false (L.filter fun m=>!aW T m))=(T,r0)):=Zp
  clear Zp
  clear l_
  generalize iF T false (L.filter fun m=>!aW T m)=R at *
  generalize L.filter (fun m=>!aW T m)=NS at *
  go_enter Tryz.func79,Tryz.ntmps79
  go_wp2_with (first
   | (go_at_call 110;refine (aa HM).mono ?_;clear HM;rintro e w2 ⟨Tt,ao2,pq,cap2,rfl,xS,jh,HB2⟩;obtain ⟨ao1',cap1',e1,hv1⟩:=aN (aa xS);injection e1 with e2 e3 e4;subst e2;subst e4;obtain ⟨g1,rfl,GN,-⟩:=hv1 VQ;have HJ:=hide (aa Ny w2 g1 pq (aa HB2) (aa xS) GN);clear Ny)
   | (go_at_call 113;refine (aa HJ).mono ?_;clear HJ;rintro e w3 ⟨rfl,t3,HT3,HX3⟩))
  go_ret
  exact ⟨R,aa Nz,aa NA,rfl,t3,HT3,(a_.below (aa HB2)).past (aa HX3) GN⟩
 | cons s r=>
  have hrl:r.length+1<=100000000000:=by
   have h1:(s::r).length=r.length+1:=rfl
   have h2:(L.filter fun m=>aW T m).length<=L.length:=List.length_filter_le _ _
   omega
  have hs0:=hs3 s (List.mem_cons_self ..)
  have hf2:=jQ (B:=B) (k:=false) (l:=r) (s:=s) (fun x hx=>hs3 x (List.mem_cons_of_mem _ hx)) hs0.1 hs0.2
  have NB:=hide (fun (w2:World) (g2 cap2:Nat) (ho2:w2.ownsRow w.heap.size 61 1 (.slice (some ⟨g2,0,none⟩) (s::r).length cap2) (s::r).length (strs ((s::r).map encS)))=>Nv B hB w2 g2 cap2 s r (fun j x hj=>by
   have hjl:j<r.length+1:=(List.getElem?_eq_some_iff.1 hj).1
   rw [ho2.cellAt j (by simp;omega)]
   unfold strs
   rw [List.getElem?_map,List.getElem?_map,hj];rfl) (Ai ho2) (ho2.lt g2 rfl).2 (by omega) hs3)
  have hfs:(r.foldl (gI false) s).length<=481:=by have:=(fQ hf2.1 hf2.2).1;omega
  have hsz:(encS (r.foldl (gI false) s)).size<=maxLen:=by
   have:=yB (r.foldl (gI false) s)
   unfold maxLen
   omega
  have hop:=aa l_
  have oQ:=Op.set hT hf2.1 hf2.2
  have hmk:=Pq hT (aa Hw) (aa HNS) hf2.1 hf2.2
  have hup:g_ (fA T (encS (r.foldl (gI false) s))).1 ((L.filter fun m=>!aW T m)++[(fA T (encS (r.foldl (gI false) s))).2]) (zs++[.set (r.foldl (gI false) s)]):=by
   obtain ⟨X,eX⟩:=oQ.sub
   refine g_.app ?_ (.cons oQ.rp .nil)
   rw [eX];exact (aa HZS).mono
  have hj0:=tV oQ.ti hmk hup
  have e1:aj false ts=aj false (zs++[.set (r.foldl (gI false) s)]):=hop.rp.uniq hj0.rp
  have hjf:=fun hz=>wY oQ.ti hmk hup hz
  rw [<-e1] at hjf
  have VR:=hide (fun w2 w3 (hb2:Below w.heap.size w w2) (hb:Below w2.heap.size w2 w3)=>FP (S:=S) (C:=C) (s:=encS (r.foldl (gI false) s)) (aX.below (aX.below h hb2) hb) hsz (by have:=oQ.len;omega))
  have hql:=oQ.len
  have Ny:=hide (fun (w5:World) (t4:TB) (g5 cap5:Nat) (hT5:Hid (aX w5 t4 (fA T (encS (r.foldl (gI false) s))).1 (ak (fA T (encS (r.foldl (gI false) s))).1) S C)) (hO5:w5.ownsRow w.heap.size 3 1 (.slice (some ⟨g5,0,none⟩) ((L.filter fun m=>!aW T m)++[(fA T (encS (r.foldl (gI false) s))).2]).length cap5) ((L.filter fun m=>!aW T m)++[(fA T (encS (r.foldl (gI false) s))).2]).length (ints (ay ((L.filter fun m=>!aW T m)++[(fA T (encS (r.foldl (gI false) s))).2]))))=>
   wZ (k:=false) (cap:=cap5) hT5 oQ.ti.wf hup.lt (by rw [List.length_append];simp;omega) (fun hz=>by have:=hjf hz;omega) (dU hO5 (Nat.zero_le _)) (xg (aa hT5) hO5))
  clear hj0 e1 hop oQ hmk hup hjf hql hf2 hs3 hs0 hfs hsz
  rw [show ((aY false:Nat):Int)=0 from rfl,show ((dF false:Nat):Int)=2 from rfl,show kk false=4 from rfl] at Ny
  have Nz:Hid (Op B T (iF (fA T (encS (r.foldl (gI false) s))).1 false ((L.filter fun m=>!aW T m)++[(fA T (encS (r.foldl (gI false) s))).2])) (aj false ts) ((memT false (aj false ts)).length+1)):=l_
  have NA:Hid (∀ r0,l=[r0]->(iF (fA T (encS (r.foldl (gI false) s))).1 false ((L.filter fun m=>!aW T m)++[(fA T (encS (r.foldl (gI false) s))).2]))=(T,r0)):=Zp
  clear Zp
  clear l_
  generalize encS (r.foldl (gI false) s)=es at *
  generalize fA T es=Q at *
  generalize iF Q.1 false ((L.filter fun m=>!aW T m)++[Q.2])=R at *
  generalize hNS:L.filter (fun m=>!aW T m)=NS at *
  have hlen1:(NS++[Q.2]).length=NS.length+1:=by simp
  rw [hlen1] at Ny
  rw [show (s::r).length=r.length+1 from rfl] at HM NB
  go_enter Tryz.func79,Tryz.ntmps79
  go_wp2_with (first
   | (go_at_call 110;refine (aa HM).mono ?_;clear HM;rintro e w2 ⟨Tt,ao2,pq,cap2,rfl,xS,jh,HB2⟩;have hws:w.heap.size<=w2.heap.size:=(aa HB2).size;have HV1:Hid (∀ k,(Value.slice Tt NS.length pq).ownBlock=some k->¬ TF t k):=(fun k hk=>aX.dS h ((aa xS).lt k hk).1);obtain ⟨ao2',cap2',e1,hv2⟩:=aN (aa jh);injection e1 with e2 e3 e4;subst e2;subst e4;obtain ⟨g2,rfl,-⟩:=hv2 (by omega);have HFO:=hide (aa NB w2 g2 cap2 (aa jh));clear NB hv2)
   | (go_at_call 111;refine (aa HFO).mono ?_;clear HFO;rintro e w3 ⟨rfl,HB3⟩;have HST:=hide (aa VR w2 _ (aa HB2) (aa HB3));clear VR)
   | (go_at_call 82;refine (aa HST).mono ?_;clear HST;rintro e w4 ⟨rfl,t4,zh,VS⟩;have GQ:Hid (a_ t t4 w w4):=((a_.below (aa HB2)).trans (a_.below (aa HB3))).trans (aa VS);have z8:=hide (GL (own_below (aa xS) (aa HB3) (Nat.le_refl _)) (aa VS) (aa HV1));have hw4:w.heap.size<=w4.heap.size:=(aa GQ).size;have abS:Hid (Below w.heap.size w4 w4):=Below.refl _ _;have HO4':Hid (w4.ownsRow w.heap.size 3 1 (.slice Tt NS.length pq) NS.length (ints (ay NS))):=z8)
   | (at_builtin;refine jK Tryz.underlying31 gP rfl (by decide) (by decide) w.heap.size w4 w4 _ _ [.int .i64 (Q.2:Int)] _ (.tmp 16) (.tmp 21) rfl rfl rfl w4.heap.size rfl rfl HO4' abS hw4 hNl rfl (by intro u hu;simp at hu;rw [hu];rfl) ?_;intro g5 cap5 w5 oM kz FM;have qY:Hid (aX w5 t4 Q.1 (ak Q.1) S C):=GM (aa zh) (aa GQ) (aa TS) (aa kz) (aa FM);have HO5':Hid (w5.ownsRow w.heap.size 3 1 (.slice (some ⟨g5,0,none⟩) (NS.length+1) cap5) (NS.length+1) (ints (ay (NS++[Q.2])))):=(by show World.ownsRow _ _ _ _ _ _ _;rw [h_,show ints (ay NS++ay [Q.2])=ints (ay NS)++[.int .i64 (Q.2:Int)] from by simp [ints,ay]];exact oM);have HJ:=hide (aa Ny w5 t4 g5 cap5 qY (aa HO5'));rw [(aa GQ).tb] at HJ;have Mf:=hide (w_ (aa GQ) (aa kz));have abT:=((aa oM).lt g5 rfl).1)
   | (go_at_call 113;refine (aa HJ).mono ?_;clear HJ;rintro e w6 ⟨rfl,t6,XO,HX6⟩))
  go_ret
  exact ⟨R,aa Nz,aa NA,rfl,t6,XO,(aa Mf).past (aa HX6) abT⟩
end
end Go.Proofs.YtfolanohokflkaaGreatDoor
namespace Go.Proofs.YtfolanohokflkaaGreatDoor
open Go.RowKit
open Tm (eps)
section
variable {w W W':World} {t:TB} {T:List Te} {N S C C' C2:List (Value×Value)} {n0:Nat} {g:Option Nat}
structure KC (w W:World) (t:TB) (T:List Te) (S C C':List (Value×Value)) (n0:Nat) (g:Option Nat):Prop where
 tab:aX W t T (ak T) S C'
 cv:iC W t T C'
 fr:a_ t t w W
 ap:∀ b,g=some b->w.heap.size<=b/\b<W.heap.size/\Av (fun k=>k=b) C'
 keys:∀ p∈C',p∈C\/∃ i:Nat,i<n0/\p.1=.int .i64 (i:Int)
 av:∀ P:Nat->Prop,(∀ k,P k->k<w.heap.size)->Av P C->Av P C'
theorem KC.zero (h:Hid (aX w t T (ak T) S C)) (hc:Hid (iC w t T C)):KC w w t T S C C n0 none:=
 ⟨aa h,aa hc,a_.refl _ _,(fun _ e=>nomatch e),fun _ hp=>.inl hp,fun _ _ ha=>ha⟩
theorem KC.grown (h0:Hid (aX w t T (ak T) S C)) (h:KC w W t T S C C' n0 g) (hg:W.grownBy W' g):KC w W' t T S C C' n0 g where
 tab:=h.tab.move fun k hk hl=>hg.block k hl (fun e=>aX.dS h0 (h.ap k e.symm).1 hk)
 cv:=by
  refine ⟨h.cv.1,fun p hp=>?_⟩
  obtain ⟨n,gg,cap,l,y,e,h1,h2,h2',h3⟩:=h.cv.2 p hp
  exact ⟨n,gg,cap,l,y,e,h1,h2,h2',h3.move (hg.block gg h3.lt (fun e'=>(h.ap gg e'.symm).2.2 p hp gg _ _ (by rw [e]) rfl))⟩
 fr:=by
  have f:=h.fr
  exact ⟨hg.os.trans f.os,hg.tape.trans f.tape,hg.output.trans f.output,Nat.le_trans f.size hg.size,fun k hk hn=>(hg.block k (Nat.lt_of_lt_of_le hk f.size) (fun e=>by have:=(h.ap k e.symm).1;omega)).trans (f.block k hk hn),f.tb,f.nb,f.sb,f.cb,f.row⟩
 ap:=fun b e=>⟨(h.ap b e).1,Nat.lt_of_lt_of_le (h.ap b e).2.1 hg.size,(h.ap b e).2.2⟩
 keys:=h.keys
 av:=h.av
theorem KC.at {g4:Nat} (h0:Hid (aX w t T (ak T) S C)) (h:KC w W t T S C C' n0 g) (hg:W.grownBy W' g) (hat:g=some g4\/g4=W.heap.size) (hlt:g4<W'.heap.size):KC w W' t T S C C' n0 (some g4):=by
 have h1:=h.grown h0 hg
 refine ⟨h1.tab,h1.cv,h1.fr,fun b e=>?_,h1.keys,h1.av⟩
 injection e with e
 subst e
 rcases hat with e | e
 ·exact h1.ap g4 e
 ·refine ⟨by rw [e];exact h.fr.size,hlt,fun p hp gg m c e2 e3=>?_⟩
  obtain ⟨n,g',cap,l,y,e4,h5,h2,h2',h3⟩:=h.cv.2 p hp
  rw [e4] at e2
  injection e2 with e2
  injection e2 with e2
  injection e2 with e2
  have:=h3.lt
  omega
theorem KC.call {n gg:Nat} (h:KC w W t T S C C' n0 g) (h1:aX W' t T (ak T) S C2) (h2:iC W' t T C2) (h3:a_ t t W W') (hn:n<n0) (h4:∀ p∈C2,p∈C'\/∃ i:Nat,i<=n/\p.1=.int .i64 (i:Int)) (h5:∀ P:Nat->Prop,(∀ k,P k->k<W.heap.size)->Av P C'->Av P C2/\¬ P gg):KC w W' t T S C C2 n0 g where
 tab:=h1
 cv:=h2
 fr:=h.fr.trans h3
 ap:=fun b e=>⟨(h.ap b e).1,Nat.lt_of_lt_of_le (h.ap b e).2.1 h3.size,(h5 _ (fun k hk=>by rw [hk];exact (h.ap b e).2.1) (h.ap b e).2.2).1⟩
 keys:=fun p hp=>by
  rcases h4 p hp with q | ⟨i,hi,q⟩
  ·exact h.keys p q
  ·exact .inr ⟨i,by omega,q⟩
 av:=fun P hP hA=>(h5 P (fun k hk=>Nat.lt_of_lt_of_le (hP k hk) h.fr.size) (h.av P hP hA)).1
theorem KC.row {base e size m:Nat} {v:Value} {xs:List Value} (h0:Hid (aX w t T (ak T) S C)) (h:KC w W t T S C C' n0 v.ownBlock) (h3:a_ t t W W') (ho:W.ownsRow base e size v m xs):W'.ownsRow base e size v m xs:=
 GL ho h3 fun k hk=>aX.dS h0 (h.ap k hk).1
theorem abU:(Tryz.prog.info? 21).map (fun i=>(i.zero,i.size,i.bytes))=some (some (.int .i32 0),1,4):=by kernel_rfl
def GR (t:TB) (T:List Te) (S:List (Value×Value)) (n0:Nat) (n:Nat):Prop:=n<n0/\∃ y,Rp T n y/\jW y/\(∀ l,yt y l->l.length<=481)/\∀ (W:World) (C:List (Value×Value)),Hid (aX W t T (ak T) S C)->Hid (iC W t T C)->Calls Tryz.prog 125 #[.pointer (some ⟨t.tb,0,none⟩),.int .i64 n] W (mG y W t T S C (fun i=>i<=n))
set_option maxRecDepth 100000 in
set_option maxHeartbeats 4000000 in
theorem sI {ns:List Nat} {z:Tm} {g0 cap0:Nat} (h:Hid (aX w t T (ak T) S C)) (hc:Hid (iC w t T C)) (hne:ns≠[]) (hl:ns.length<=1000000) (hns:∀ n∈ns,GR t T S n0 n) (hz:∀ c,si z c↔∃ n∈ns,∃ y,Rp T n y/\si y c)
  (hcl:∀ j n,ns[j]? = some n->w.cell? ⟨g0,j,none⟩=some (.int .i64 ((n:Nat):Int))) (hg0:g0<w.heap.size) (hg0':¬ TF t g0) (hcap:ns.length<=cap0) :
  Calls Tryz.prog 174 #[.pointer (some ⟨t.tb,0,none⟩),.slice (some ⟨g0,0,none⟩) ns.length cap0] w (mG z w t T S C (fun i=>i<n0)):=by
 obtain ⟨i0,hi0,hz0,hz1,hz2⟩:=info_parts abU
 have zF:=hide hcl
 have HNS:=hide hns
 have HZ:=hide hz
 clear hcl hns hz
 go_enter Tryz.func174,Tryz.ntmps174
 go_wp2_with fail
 go_loopw [5,10] (fun v i wr=>∃ (k':Nat) (ao:Option Addr) (cap m:Nat) (acc:List Int) (C':List (Value×Value)),k'<=ns.length/\i=.int .i64 (k':Int)/\v=.slice ao m cap/\Hid (m=acc.length)/\Hid (wr.ownsRow w.heap.size 21 1 (.slice ao m cap) m (runeCells acc))/\Hid (KC w wr t T S C C' n0 (Value.slice ao m cap).ownBlock)/\m<=k'*481/\Hid (∀ c,c∈acc↔∃ n∈ns.take k',∃ y,Rp T n y/\si y c)) (fun _ i _=>ns.length - (intOf i).toNat)
 case atStart=>exact ⟨0,none,0,0,[],C,Nat.zero_le _,rfl,rfl,rfl,World.ownsRow_nil _ _ _ _,KC.zero h hc,Nat.zero_le _,fun c=>by simp⟩
 case round=>
  obtain ⟨k',ao,cap,m,acc,C',hk',rfl,rfl,HM,HO,HK,hm,HA⟩:=hrel
  by_cases hlt:k'<ns.length
  ·have cx:wr.cell? ⟨g0,k',none⟩=some (.int .i64 ((ns[k']:Nat):Int)):=by
    rw [World.cell?_of_block (a:=⟨g0,k',none⟩) ((aa HK).fr.block g0 hg0 hg0')]
    exact aa zF k' _ (by simp [hlt])
   obtain ⟨hnn,y,hy,hok,hyl,hyc⟩:=aa HNS ns[k'] (List.getElem_mem _)
   have gK:=hide (hyc wr C' (hide (aa HK).tab) (hide (aa HK).cv))
   have HY:=hide (And.intro hy (And.intro hok hyl))
   have RX:=hide (List.take_succ_eq_append_getElem hlt)
   generalize ns[k']=n at *
   have LY:(k':Int)<(ns.length:Int):=by omega
   have hws:w.heap.size<=wr.heap.size:=(aa HK).fr.size
   clear hy hok hyl hyc
   go_wp2_with (first
    | (go_at_call 125;refine (aa gK).mono ?_;clear gK;rintro e w2 ⟨dn,g2,cap2,C2,rfl,qV,HR2,HT2,xD,uJ,hk2,ha2⟩;have HK2:Hid (KC w w2 t T S C C2 n0 (Value.slice ao m cap).ownBlock):=(aa HK).call (aa HT2) (aa xD) (aa uJ) hnn hk2 ha2;have jh:=hide (KC.row h (aa HK) (aa uJ) (aa HO));have hl2:=(aa HY).2.2 dn qV;have hl0:0<dn.length:=(List.length_pos_of_mem ((qV.mem 0).2 (nQ (aa HY).2.1)));have hs2:w.heap.size<=w2.heap.size:=(aa HK2).fr.size;have HL2:=hide qV;clear qV hk2 ha2 HT2 xD uJ)
    | (at_builtin;refine wpList_append_lies w2 rfl (.tmp 14) (.tmp 17) 107 rfl w.heap.size 21 i0 _ 1 4 Tryz.underlying107 hi0 hz0 hz1 hz2 rfl (by omega) _ m (runeCells acc) rfl (aa jh) ⟨g2,0,none⟩ dn.length cap2 (runeCells dn) rfl (by simp [runeCells]) ((aa HR2).own.cells rfl) (by intro u hu;obtain ⟨z,_,rfl⟩:=List.mem_map.1 hu;rfl) hl0 (by unfold maxLen;omega) (by omega) hs2 _ rfl ?_;intro g3 gp w3 ho3 hg3 adA hlt3;have qg:=hide ho3;have Y8:=hide (KC.at h (aa HK2) hg3 adA hlt3);clear ho3 hg3 adA))
   go_roundw
   case rel=>
    refine ⟨k'+1,some ⟨g3,0,none⟩,gp,m+dn.length,acc++dn,C2,by omega,by go_num,rfl,by show _=_;rw [List.length_append,<-aa HM],?_,Y8,by omega,fun c=>?_⟩
    ·show World.ownsRow _ _ _ _ _ _ _
     rw [show runeCells (acc++dn)=runeCells acc++runeCells dn from by simp [runeCells]]
     exact qg
    ·rw [List.mem_append,aa HA c,aa RX,(aa HL2).mem c]
     constructor
     ·rintro (⟨n1,hn1,q⟩ | q)
      ·exact ⟨n1,List.mem_append_left _ hn1,q⟩
      ·exact ⟨n,by simp,y,(aa HY).1,q⟩
     ·rintro ⟨n1,hn1,y1,hy1,q⟩
      rcases List.mem_append.1 hn1 with q1 | q1
      ·exact .inl ⟨n1,q1,y1,hy1,q⟩
      ·rw [List.mem_singleton] at q1
       subst q1
       rw [hy1.uniq (aa HY).1] at q
       exact .inr q
   case measure=>simp [intOf];omega
  ·obtain rfl:k'=ns.length:=by omega
   rw [List.take_length] at HA
   have hacc:0<m:=by
    obtain ⟨a,r,rfl⟩:∃ a r,ns=a::r:=by cases ns with
     | nil=>exact absurd rfl hne
     | cons a r=>exact ⟨a,r,rfl⟩
    obtain ⟨-,y,hy,hok,-⟩:=aa HNS a (List.mem_cons_self ..)
    rw [aa HM]
    exact List.length_pos_of_mem ((aa HA 0).2 ⟨a,List.mem_cons_self ..,y,hy,nQ hok⟩)
   obtain ⟨ao',cap',e',hv⟩:=aN (aa HO)
   injection e' with e1 e2 e3
   subst e1
   subst e3
   obtain ⟨gL,rfl,hgb,RY,-,-⟩:=hv hacc
   have hcs:=mP _ (J3 acc)
   have eO:=hide (Jv wr gL m cap acc (aa HM).symm hacc (by omega) (hide (dU (aa HO) (Nat.zero_le _))))
   have LV:=hide (fun w2 (ho:w2.ownsRow 0 21 1 (.slice (some ⟨gL,0,none⟩) m cap) m (runeCells (ji acc)))=>GJ w2 gL m cap (ji acc) ((yu _).trans (aa HM).symm) (by omega) ho (Nat.le_trans hcs.2.2 (by rw [yu,<-aa HM];exact Nat.le_refl _)))
   have Sc:Hid (yt z (Lib.compact (ji acc))):=⟨hcs.1,fun c=>by rw [hcs.2.1 c,E8,aa HA c,aa HZ c]⟩
   clear hcs hv
   go_wp2_with (first
    | (go_at_call 239;refine (aa eO).mono ?_;clear eO;rintro e w3 ⟨rfl,HX3⟩;have xD:=hide (aa LV w3 (aa HX3).1);clear LV)
    | (go_at_call 240;refine (aa xD).mono ?_;clear xD;rintro e w4 ⟨rfl,ho4,hg4⟩;have z8:=hide ho4;have YJ:=hide hg4;clear ho4 hg4))
   go_ret
   have hk4:=((aa HK).grown h (aa HX3).2).grown h (aa YJ)
   exact ⟨_,gL,cap,C',rfl,aa Sc,⟨aa z8,aX.dS h hgb⟩,hk4.tab,hk4.cv,hk4.fr,hk4.keys,fun P hP hA=>⟨hk4.av P hP hA,fun q=>by have:=hP gL q;omega⟩⟩
end
section
variable {w W W':World} {t:TB} {T:List Te} {N S C C' C2:List (Value×Value)} {n0:Nat} {B:List Int}
theorem mG.lift {y z:Tm} {ok ok':Nat->Prop} {e:Ending} (h:mG y W t T S C ok e W') (hf:a_ t t w W) (hok:∀ i,ok i->ok' i) (hz:∀ c,si y c↔si z c):mG z w t T S C ok' e W':=by
 obtain ⟨dn,g,cap,C',h1,h2,h3,h4,h5,h6,h7,h8⟩:=h
 refine ⟨dn,g,cap,C',h1,⟨h2.rise,fun c=>(h2.mem c).trans (hz c)⟩,h3,h4,h5,hf.trans (aa h6),fun p hp=>?_,fun P hP hA=>h8 P (fun k hk=>Nat.lt_of_lt_of_le (hP k hk) hf.size) hA⟩
 rcases h7 p hp with q | ⟨i,q1,q2⟩
 ·exact .inl q
 ·exact .inr ⟨i,hok i q1,q2⟩
theorem a_.drewN {t:TB} {w w':World} (h:a_ t t w w') (q:Nat):a_ t t w (w'.drewN q):=⟨h.os,h.tape,h.output,h.size,h.block,h.tb,h.nb,h.sb,h.cb,h.row⟩
theorem Aj {i:Nat} {y:Tm} (ha:GR t T S n0 i) (hy:Rp T i y):i<n0/\∀ (W:World) (C:List (Value×Value)),Hid (aX W t T (ak T) S C)->Hid (iC W t T C)->Calls Tryz.prog 125 #[.pointer (some ⟨t.tb,0,none⟩),.int .i64 i] W (mG y W t T S C (fun j=>j<=i)):=by
 obtain ⟨h1,y',h2,-,-,h3⟩:=ha
 rw [hy.uniq h2]
 exact ⟨h1,h3⟩
set_option maxRecDepth 100000 in
set_option maxHeartbeats 4000000 in
theorem Zq {i:Nat} {y:Tm} (h:Hid (aX w t T (ak T) S C)) (hc:Hid (iC w t T C)) (ha:GR t T S n0 i) (hy:Rp T i y) :
  Calls Tryz.prog 177 #[.pointer (some ⟨t.tb,0,none⟩),iD (dQ i)] w (mG (.star y) w t T S C (fun j=>j<n0)):=by
 unfold iD dQ
 dsimp only
 obtain ⟨hin,XW⟩:=Aj ha hy
 have uh:Hid (a_ t t w (w.alloc (.cells #[.int .i64 3,.string ⟨#[]⟩,.int .i64 (i:Int),.int .i64 0] 135))):=a_.below ((Below.refl _ _).alloc (Nat.le_refl _) _)
 have D5:=hide (XW (w.alloc (.cells #[.int .i64 3,.string ⟨#[]⟩,.int .i64 (i:Int),.int .i64 0] 135)) C (aX.alloc h _) (iC.move hc (fun k hk _=>Below.heap_alloc w _ k hk)))
 clear h hc ha XW
 go_enter Tryz.func177,Tryz.ntmps177
 go_wp2_with (go_at_call 125;refine (aa D5).mono ?_;clear D5;rintro x w2 HH;have gK:=hide HH;obtain ⟨l2,g2,cap2,C2,rfl,-⟩:=HH)
 go_ret
 exact (aa gK).lift (aa uh) (fun j hj=>by omega) (fun c=>Iff.rfl)
set_option maxRecDepth 100000 in
set_option maxHeartbeats 4000000 in
theorem abV {i:Nat} {y:Tm} (h:Hid (aX w t T (ak T) S C)) (hc:Hid (iC w t T C)) (ha:GR t T S n0 i) (hy:Rp T i y) :
  Calls Tryz.prog 188 #[.pointer (some ⟨t.tb,0,none⟩),iD (dR i)] w (mG (.not y) w t T S C (fun j=>j<n0)):=by
 unfold iD dR
 dsimp only
 obtain ⟨hin,XW⟩:=Aj ha hy
 have uh:Hid (a_ t t w (w.alloc (.cells #[.int .i64 6,.string ⟨#[]⟩,.int .i64 (i:Int),.int .i64 0] 135))):=a_.below ((Below.refl _ _).alloc (Nat.le_refl _) _)
 have D5:=hide (XW (w.alloc (.cells #[.int .i64 6,.string ⟨#[]⟩,.int .i64 (i:Int),.int .i64 0] 135)) C (aX.alloc h _) (iC.move hc (fun k hk _=>Below.heap_alloc w _ k hk)))
 clear h hc ha XW
 go_enter Tryz.func188,Tryz.ntmps188
 go_wp2_with (go_at_call 125;refine (aa D5).mono ?_;clear D5;rintro x w2 HH;have gK:=hide HH;obtain ⟨l2,g2,cap2,C2,rfl,-⟩:=HH)
 go_ret
 exact (aa gK).lift (aa uh) (fun j hj=>by omega) (fun c=>Iff.rfl)
set_option maxRecDepth 100000 in
set_option maxHeartbeats 4000000 in
theorem VT {i j:Nat} {x y:Tm} {ki:Ky} {b:Bool} (h:Hid (aX w t T (ak T) S C)) (hc:Hid (iC w t T C)) (ha:GR t T S n0 i) (hx:Rp T i x) (hb:T[i]? = some (ki,b)) (hbn:b=di x) (hy:Rp T j y) (ha2:b=true->GR t T S n0 j) :
  Calls Tryz.prog 173 #[.pointer (some ⟨t.tb,0,none⟩),iD (bJ i j)] w (mG (.chain x y) w t T S C (fun j=>j<n0)):=by
 unfold iD bJ
 dsimp only
 have HA:=aX.alloc h (.cells #[.int .i64 2,.string ⟨#[]⟩,.int .i64 (i:Int),.int .i64 (j:Int)] 135)
 have uh:Hid (a_ t t w (w.alloc (.cells #[.int .i64 2,.string ⟨#[]⟩,.int .i64 (i:Int),.int .i64 (j:Int)] 135))):=a_.below ((Below.refl _ _).alloc (Nat.le_refl _) _)
 have p_:=iC.move (w':=w.alloc (.cells #[.int .i64 2,.string ⟨#[]⟩,.int .i64 (i:Int),.int .i64 (j:Int)] 135)) hc (fun k hk _=>Below.heap_alloc w _ k hk)
 obtain ⟨g,q2,-,-,-,-,a4⟩:=(aa HA).at hb
 have hlt:i<T.length:=(List.getElem?_eq_some_iff.1 hb).1
 have hI:(i:Int)<(T.length:Int):=by omega
 have hI0:(0:Int)<=(i:Int):=by omega
 have hsz:w.heap.size<(w.alloc (.cells #[.int .i64 2,.string ⟨#[]⟩,.int .i64 (i:Int),.int .i64 (j:Int)] 135)).heap.size:=by simp
 dsimp only at a4
 cases b with
 | false=>
  obtain ⟨hin,XW⟩:=Aj ha hx
  have D5:=hide (fun q=>XW ((w.alloc (.cells #[.int .i64 2,.string ⟨#[]⟩,.int .i64 (i:Int),.int .i64 (j:Int)] 135)).drewN q) C (hide ((aa HA).drew q)) (iC.move p_ (fun _ _ _=>rfl)))
  have HIC:Hid (∀ c,si x c↔si (.chain x y) c):=fun c=>by simp [si,<-hbn]
  clear h hc hb ha ha2 hbn HA p_ XW
  go_enter Tryz.func173,Tryz.ntmps173
  go_wp2_with fail
  go_quiet (fail)
  go_wp2_with (go_at_call 125;refine (aa D5 _).mono ?_;clear D5;rintro x w2 HH;have gK:=hide HH;obtain ⟨l2,g2,cap2,C2,rfl,-⟩:=HH)
  go_ret
  exact (aa gK).lift (a_.drewN (aa uh) _) (fun j hj=>by omega) (aa HIC)
 | true=>
  have ha2:=ha2 rfl
  have HIC:Hid (∀ c,si (.chain x y) c↔∃ n∈[i,j],∃ z,Rp T n z/\si z c):=fun c=>by
   constructor
   ·rintro (q | ⟨-,q⟩)
    ·exact ⟨i,by simp,x,hx,q⟩
    ·exact ⟨j,by simp,y,hy,q⟩
   ·rintro ⟨n,hn,z,hz,q⟩
    rcases List.mem_cons.1 hn with e | e
    ·subst e;rw [hz.uniq hx] at q;exact .inl q
    ·rw [List.mem_singleton] at e;subst e;rw [hz.uniq hy] at q;exact .inr ⟨hbn.symm,q⟩
  have Sd:Hid (∀ q,((w.alloc (.cells #[.int .i64 2,.string ⟨#[]⟩,.int .i64 (i:Int),.int .i64 (j:Int)] 135)).drewN q).heap.size=w.heap.size+1):=fun q=>World.size_alloc ..
  have D5:=hide (fun q=>sI (n0:=n0) (ns:=[i,j]) (z:=.chain x y) (g0:=w.heap.size+1) (cap0:=2) (w:=((w.alloc (.cells #[.int .i64 2,.string ⟨#[]⟩,.int .i64 (i:Int),.int .i64 (j:Int)] 135)).drewN q).alloc (.cells #[.int .i64 (i:Int),.int .i64 (j:Int)] 3))
   (aX.alloc (hide ((aa HA).drew q)) _) (iC.move (iC.move (w':=(w.alloc (.cells #[.int .i64 2,.string ⟨#[]⟩,.int .i64 (i:Int),.int .i64 (j:Int)] 135)).drewN q) p_ (fun _ _ _=>rfl)) (fun k hk _=>Below.heap_alloc _ _ k hk)) (by simp) (by simp) (fun n hn=>by
    rcases List.mem_cons.1 hn with e | e
    ·rw [e];exact ha
    ·rw [List.mem_singleton] at e;rw [e];exact ha2) (aa HIC)
   (fun k n hk=>by
    have hb:=heap_alloc_new ((w.alloc (.cells #[.int .i64 2,.string ⟨#[]⟩,.int .i64 (i:Int),.int .i64 (j:Int)] 135)).drewN q) (.cells #[.int .i64 (i:Int),.int .i64 (j:Int)] 3)
    rw [aa Sd q] at hb
    rw [cell_of_row _ _ k _ _ _ hb]
    match k,hk with
    | 0,hk=>cases hk;rfl
    | 1,hk=>cases hk;rfl) (by rw [World.size_alloc,aa Sd q];exact Nat.lt_succ_self _) (aX.dS (hide ((aa HA).drew q)) (by rw [aa Sd q];exact Nat.le_refl _)) (Nat.le_refl _))
  rw [show [i,j].length=2 from rfl] at D5
  have uJ:Hid (∀ q,a_ t t w (((w.alloc (.cells #[.int .i64 2,.string ⟨#[]⟩,.int .i64 (i:Int),.int .i64 (j:Int)] 135)).drewN q).alloc (.cells #[.int .i64 (i:Int),.int .i64 (j:Int)] 3))):=fun q=>(a_.drewN (aa uh) q).trans (a_.below ((Below.refl _ _).alloc (Nat.le_refl _) _))
  clear h hc hb ha ha2 hbn HA p_ HIC uh
  go_enter Tryz.func173,Tryz.ntmps173
  go_wp2_with fail
  go_quiet (fail)
  go_wp2_with (go_at_call 174;refine (aa D5 _).mono ?_;clear D5;rintro x w2 HH;have gK:=hide HH;obtain ⟨l2,g2,cap2,C2,rfl,-⟩:=HH)
  go_ret
  exact (aa gK).lift (aa uJ _) (fun j hj=>hj) (fun c=>Iff.rfl)
def kF3 (k:Bool):Nat:=if k=true then 185 else 182
set_option maxRecDepth 100000 in
set_option maxHeartbeats 4000000 in
theorem abW {k:Bool} {i j:Nat} {l:List Nat} {z:Tm} (h:Hid (aX w t T (ak T) S C)) (hc:Hid (iC w t T C)) (hw:uI T) (hsp:ky T k j l) (hl:l.length+1<=1000000) (ha:∀ n∈i::l,GR t T S n0 n) (hz:∀ c,si z c↔∃ n∈i::l,∃ y,Rp T n y/\si y c) :
  Calls Tryz.prog (kF3 k) #[.pointer (some ⟨t.tb,0,none⟩),iD (bW k i j)] w (mG z w t T S C (fun j=>j<n0)):=by
 have HP:=hide (E_ (i:=i) (aX.alloc h (.cells #[.int .i64 (kk k),.string ⟨#[]⟩,.int .i64 (i:Int),.int .i64 (j:Int)] 135)) hw hsp (by omega))
 have uh:Hid (a_ t t w (w.alloc (.cells #[.int .i64 (kk k),.string ⟨#[]⟩,.int .i64 (i:Int),.int .i64 (j:Int)] 135))):=a_.below ((Below.refl _ _).alloc (Nat.le_refl _) _)
 have HTA:=aX.alloc h (.cells #[.int .i64 (kk k),.string ⟨#[]⟩,.int .i64 (i:Int),.int .i64 (j:Int)] 135)
 have p_:=iC.move (w':=w.alloc (.cells #[.int .i64 (kk k),.string ⟨#[]⟩,.int .i64 (i:Int),.int .i64 (j:Int)] 135)) hc (fun k hk _=>Below.heap_alloc w _ k hk)
 have HAL:=hide (fun (w2:World) (g cap:Nat) (hb:Below (w.alloc (.cells #[.int .i64 (kk k),.string ⟨#[]⟩,.int .i64 (i:Int),.int .i64 (j:Int)] 135)).heap.size (w.alloc (.cells #[.int .i64 (kk k),.string ⟨#[]⟩,.int .i64 (i:Int),.int .i64 (j:Int)] 135)) w2) (ho:w2.ownsRow (w.alloc (.cells #[.int .i64 (kk k),.string ⟨#[]⟩,.int .i64 (i:Int),.int .i64 (j:Int)] 135)).heap.size 3 1 (.slice (some ⟨g,0,none⟩) (l.length+1) cap) (l.length+1) (ints (ay (i::l))))=>
  sI (n0:=n0) (ns:=i::l) (z:=z) (g0:=g) (cap0:=cap) (aX.below HTA hb) (iC.below p_ hb) (by simp) (by simp;omega) ha hz (fun k n hk=>by
   have hkl:k<l.length+1:=(List.getElem?_eq_some_iff.1 hk).1
   rw [ho.cellAt k (by omega)]
   unfold ints ay
   rw [List.getElem?_map,List.getElem?_map,hk];rfl) (ho.lt g rfl).2 (aX.dS HTA (ho.lt g rfl).1) (Ai ho))
 rw [show (i::l).length=l.length+1 from rfl] at HAL
 unfold iD bW at HP
 unfold iD bW kF3
 dsimp only at HP ⊢
 clear h hc hw hsp ha hz HTA p_
 cases k with
 | false=>
  rw [if_neg (by simp)]
  rw [show kk false=4 from rfl] at uh HAL HP ⊢
  go_enter Tryz.func182,Tryz.ntmps182
  go_wp2_with (first
   | (go_at_call 181;refine (aa HP).mono ?_;clear HP;rintro x w2 ⟨g2,cap2,rfl,jh,HB2⟩;have D5:=hide (aa HAL w2 g2 cap2 (aa HB2) (aa jh));clear HAL)
   | (go_at_call 174;refine (aa D5).mono ?_;clear D5;rintro x w3 HH;have gK:=hide HH;obtain ⟨l3,g3,gp,C3,rfl,-⟩:=HH))
  go_ret
  exact (aa gK).lift ((aa uh).trans (a_.below (aa HB2))) (fun j hj=>hj) (fun c=>Iff.rfl)
 | true=>
  rw [if_pos rfl]
  rw [show kk true=5 from rfl] at uh HAL HP ⊢
  go_enter Tryz.func185,Tryz.ntmps185
  go_wp2_with (first
   | (go_at_call 181;refine (aa HP).mono ?_;clear HP;rintro x w2 ⟨g2,cap2,rfl,jh,HB2⟩;have D5:=hide (aa HAL w2 g2 cap2 (aa HB2) (aa jh));clear HAL)
   | (go_at_call 174;refine (aa D5).mono ?_;clear D5;rintro x w3 HH;have gK:=hide HH;obtain ⟨l3,g3,gp,C3,rfl,-⟩:=HH))
  go_ret
  exact (aa gK).lift ((aa uh).trans (a_.below (aa HB2))) (fun j hj=>hj) (fun c=>Iff.rfl)
end
end Go.Proofs.YtfolanohokflkaaGreatDoor
