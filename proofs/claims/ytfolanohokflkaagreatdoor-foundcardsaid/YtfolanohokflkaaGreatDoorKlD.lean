import Derived.Test.YtfolanohokflkaaGreatDoorRpI
import Derived.Test.YtfolanohokflkaaGreatDoorShelfH
import Derived.Test.YtfolanohokflkaaGreatDoorOnlD
import Derived.Test.YtfolanohokflkaaGreatDoorSpA
import Derived.WalkKit
import Derived.WalkSpells
import Derived.WalkLawsBesides
import Derived.WalkMore
import Derived.Test.YtfolanohokflkaaGreatDoorTabD
import Derived.Deep.AppendLies
import Derived.Deep.QuietTactic
import Derived.BigQuiet
namespace Go.Proofs.YtfolanohokflkaaGreatDoor
open Go.RowKit Go.Shelf
attribute [local go_sem] Oper.semAt_some
theorem Kh (l:List Nat) (y:Nat):(az l).filter (fun x=>!decide (x=(y:Int)))=az (l.filter fun m=>decide (m≠y)):=by
 induction l with
 | nil=>rfl
 | cons a l ih=>
  rw [show az (a::l)=(a:Int)::az l from rfl,List.filter_cons,List.filter_cons,ih]
  by_cases h:a=y
  ·subst h;simp
  ·have:¬ ((a:Int)=(y:Int)):=by omega
   simp [h,this,az]
theorem Cu (w:World) (g cap:Nat) (l:List Nat) (y:Nat) (kb:Nat) (hN:l.length<=1000000000000) (h:w.ownsRow 0 3 1 (.slice (some ⟨g,0,none⟩) l.length cap) l.length (ints (az l))) (hk:w.cell? ⟨kb,0,none⟩=some (.int .i64 (y:Int))) (hne:kb≠g) :
  Calls Tryz.prog 157 #[.slice (some ⟨g,0,none⟩) l.length cap,.func (.func 158) #[] #[.pointer (some ⟨kb,0,none⟩)]] w fun e w'=>e=.returned (.slice (some ⟨g,0,none⟩) (l.filter fun m=>decide (m≠y)).length cap)/\Hid (w'.ownsRow 0 3 1 (.slice (some ⟨g,0,none⟩) (l.filter fun m=>decide (m≠y)).length cap) (l.filter fun m=>decide (m≠y)).length (ints (az (l.filter fun m=>decide (m≠y)))))/\Hid (w.grownBy w' (some g)):=by
 have:=YI w g l.length cap (az l) (y:Int) kb (aO l) (by omega) h hk hne
 rw [Kh,aO] at this
 exact this.mono fun e w' ⟨h1,h2,h3⟩=>⟨h1,h2,h3⟩
theorem qo {w:World} {g n cap:Nat} {l:List Nat} (hl:l.length=n) (h:w.ownsRow 0 3 1 (.slice (some ⟨g,0,none⟩) n cap) n (ints (az l))):∀ j,j<(az l).length->w.cell? ⟨g,0+j,none⟩=some (.int .i64 ((az l).getD j 0)):=fun j hj=>by
 rw [aO] at hj
 rw [Nat.zero_add,h.cellAt j (by omega)]
 unfold ints
 rw [List.getElem?_map,List.getD_eq_getElem?_getD,List.getElem?_eq_getElem (by rw [aO];exact hj)]
 rfl
theorem Cv (w:World) (g cap:Nat) (l:List Nat) (y:Nat) (hN:l.length<=1000000000000) (h:w.ownsRow 0 3 1 (.slice (some ⟨g,0,none⟩) l.length cap) l.length (ints (az l))) :
  Calls Tryz.prog 159 #[.slice (some ⟨g,0,none⟩) l.length cap,.int .i64 (y:Int)] w fun e w'=>e=.returned (.bool (decide (y∈l)))/\w'=w:=by
 have:=Tryz.slices_Contains_int g 0 l.length cap (az l) (y:Int) w (by rw [aO];exact Nat.le_refl _) (by omega) (qo rfl h)
 rw [List.take_of_length_le (by rw [aO];exact Nat.le_refl _)] at this
 refine this.mono fun e w' ⟨h1,h2⟩=>⟨?_,h2⟩
 rw [h1]
 congr 2
 rw [Bool.eq_iff_iff]
 simp only [List.contains_iff_mem,decide_eq_true_eq]
 exact rY
structure M5 (g:Nat) (t t':TB) (w w':World):Prop where
 os:w'.os=w.os
 tape:w'.tape=w.tape
 output:w'.output=w.output
 size:w.heap.size<=w'.heap.size
 block:∀ k,k<w.heap.size->¬ TF t k->k≠g->w'.heap[k]? = w.heap[k]?
 tb:t'.tb=t.tb
 nb:t'.nb=t.nb
 sb:t'.sb=t.sb
 cb:t'.cb=t.cb
 row:∀ k,t'.row=some k->t.row=some k\/w.heap.size<=k
theorem bg.past {t t1 t':TB} {w0 w w':World} {g:Nat} (h:bg t t1 w0 w) (h':M5 g t1 t' w w') (hg:w0.heap.size<=g):bg t t' w0 w':=
 ⟨h'.os.trans h.os,h'.tape.trans h.tape,h'.output.trans h.output,Nat.le_trans h.size h'.size,fun k hk hf=>(h'.block k (Nat.lt_of_lt_of_le hk h.size) (fun hf'=>(h.foot hf').elim hf (fun hl=>by omega)) (by omega)).trans (h.block k hk hf),h'.tb.trans h.tb,h'.nb.trans h.nb,h'.sb.trans h.sb,h'.cb.trans h.cb,fun k hk=>(h'.row k hk).elim (fun e=>h.row k e) (fun hl=>.inr (Nat.le_trans h.size hl))⟩
theorem M5.of {t t':TB} {w wb w1 w':World} {g:Nat} (h1:Below w.heap.size w wb) (h2:wb.grownBy w1 (some g)) (h3:bg t t' w1 w'):M5 g t t' w w':=by
 have s1:=h1.size
 have s2:=h2.size
 exact ⟨h3.os.trans (h2.os.trans h1.os),h3.tape.trans (h2.tape.trans h1.tape),h3.output.trans (h2.output.trans h1.output),Nat.le_trans s1 (Nat.le_trans s2 h3.size),fun k hk hf hne=>(h3.block k (by omega) hf).trans ((h2.block k (by omega) (fun e=>hne (by injection e))).trans (h1.block k hk)),h3.tb,h3.nb,h3.sb,h3.cb,fun k hk=>(h3.row k hk).imp id fun hl=>by omega⟩
def YK (R:List Te×Nat) (g:Nat) (w:World) (t:TB) (S C:List (Value×Value)) (e:Ending) (w':World):Prop:=
 e=.returned (.int .i64 R.2)/\∃ t',Hid (aZ w' t' R.1 (au R.1) S C)/\Hid (M5 g t t' w w')
def jU (w:World) (t:TB) (kv iv:Int):World:=((w.alloc (.cells #[.pointer (some ⟨t.tb,0,none⟩)] 86)).alloc (.cells #[.int .i64 kv] 133)).alloc (.cells #[.int .i64 iv] 3)
theorem r9 (w:World) (t:TB) (kv iv:Int):(jU w t kv iv).heap.size=w.heap.size+3:=by simp [jU]
theorem qp (w:World) (t:TB) (kv iv:Int):Below w.heap.size w (jU w t kv iv):=by
 have s1:(w.alloc (.cells #[.pointer (some ⟨t.tb,0,none⟩)] 86)).heap.size=w.heap.size+1:=by simp
 have s2:((w.alloc (.cells #[.pointer (some ⟨t.tb,0,none⟩)] 86)).alloc (.cells #[.int .i64 kv] 133)).heap.size=w.heap.size+1+1:=by simp
 exact (((Below.refl _ w).alloc (Nat.le_refl _) _).alloc (by rw [s1];omega) _).alloc (by rw [s2];omega) _
theorem Ve (w:World) (t:TB) (kv iv:Int):Boxed (jU w t kv iv) w.heap.size 86 (.pointer (some ⟨t.tb,0,none⟩)):=((Boxed.new w 86 (.pointer (some ⟨t.tb,0,none⟩))).alloc _).alloc _
theorem Vf (w:World) (t:TB) (kv iv:Int):Boxed (jU w t kv iv) (w.heap.size+1) 133 (.int .i64 kv):=by
 have:=(Boxed.new (w.alloc (.cells #[.pointer (some ⟨t.tb,0,none⟩)] 86)) 133 (.int .i64 kv)).alloc (.cells #[.int .i64 iv] 3)
 rwa [show (w.alloc (.cells #[.pointer (some ⟨t.tb,0,none⟩)] 86)).heap.size=w.heap.size+1 from by simp] at this
theorem Cw (w:World) (t:TB) (kv iv:Int):Boxed (jU w t kv iv) (w.heap.size+1+1) 3 (.int .i64 iv):=by
 have:=Boxed.new ((w.alloc (.cells #[.pointer (some ⟨t.tb,0,none⟩)] 86)).alloc (.cells #[.int .i64 kv] 133)) 3 (.int .i64 iv)
 rwa [show ((w.alloc (.cells #[.pointer (some ⟨t.tb,0,none⟩)] 86)).alloc (.cells #[.int .i64 kv] 133)).heap.size=w.heap.size+1+1 from by simp] at this
section
variable {w:World} {t:TB} {T:List Te} {S C:List (Value×Value)} {k:Bool} {ms:List Nat} {g cap:Nat}
theorem Cx {w1:World} (h:Hid (aZ w t T (au T) S C)) {wb:World} (h1:Below w.heap.size w wb) (h2:wb.grownBy w1 (some g)) (hg:¬ TF t g):Hid (aZ w1 t T (au T) S C):=by
 have hs:=h1.size
 exact (aa h).move fun i hi hil=>(h2.block i (by omega) (fun e=>hg (by injection e with e;rw [<-e];exact hi))).trans (h1.block i hil)
set_option maxRecDepth 100000 in
set_option maxHeartbeats 4000000 in
theorem RI (h:Hid (aZ w t T (au T) S C)) (hms:ms.filter (fun m=>decide (m≠a_ k))=[]) (hN:ms.length<=1000000000000) (ho:w.ownsRow 0 3 1 (.slice (some ⟨g,0,none⟩) ms.length cap) ms.length (ints (az ms))) (hg:¬ TF t g) :
  Calls Tryz.prog 113 #[.pointer (some ⟨t.tb,0,none⟩),.int .i64 (kk k),.slice (some ⟨g,0,none⟩) ms.length cap,.int .i64 (a_ k:Int),.int .i64 (dH k:Int)] w (YK (T,a_ k) g w t S C):=by
 have Ry:g<w.heap.size:=qm ho
 have hB3:=qp w t (kk k) (a_ k:Int)
 have acJ:=r9 w t (kk k) (a_ k:Int)
 have bi:=Cw w t (kk k) (a_ k:Int)
 have Cy:=hide (Cu (jU w t (kk k) (a_ k:Int)) g cap ms (a_ k) (w.heap.size+1+1) hN (own_below ho hB3 (Nat.le_refl _)) bi.cell (by omega))
 rw [hms] at Cy
 have ci:=bi.cell
 have HW3:Hid (jU w t (kk k) (a_ k:Int)=((w.alloc (.cells #[.pointer (some ⟨t.tb,0,none⟩)] 86)).alloc (.cells #[.int .i64 (kk k)] 133)).alloc (.cells #[.int .i64 (a_ k:Int)] 3)):=rfl
 have HBI:=hide bi
 have HB3:=hide hB3
 clear bi hB3 ho hms
 generalize jU w t (kk k) (a_ k:Int)=W3 at *
 generalize hid:(a_ k:Int)=iv at *
 generalize (dH k:Int)=rv at *
 generalize kk k=kv at *
 have hW3:=aa HW3
 clear HW3
 go_enter Tryz.func113,Tryz.ntmps113
 go_wp2_with (go_at_call 157;rw [<-hW3];refine (aa Cy).mono ?_;clear Cy;rintro e w1 ⟨rfl,zt,HG1⟩;have c1:w1.cell? ⟨w.heap.size+1+1,0,none⟩=some (.int .i64 iv):=((aa HBI).kept (aa HG1) (by intro e;injection e with e;omega)).cell)
 go_ret
 have hw1:=aa HG1
 refine ⟨by rw [<-hid];rfl,t,Cx h (aa HB3) hw1 hg,?_⟩
 exact M5.of (aa HB3) hw1 (bg.refl _ _)
set_option maxRecDepth 100000 in
set_option maxHeartbeats 4000000 in
theorem M6 (h:Hid (aZ w t T (au T) S C)) (hms:dH k∈ms.filter (fun m=>decide (m≠a_ k))) (hN:ms.length<=1000000000000) (ho:w.ownsRow 0 3 1 (.slice (some ⟨g,0,none⟩) ms.length cap) ms.length (ints (az ms))) (hg:¬ TF t g) :
  Calls Tryz.prog 113 #[.pointer (some ⟨t.tb,0,none⟩),.int .i64 (kk k),.slice (some ⟨g,0,none⟩) ms.length cap,.int .i64 (a_ k:Int),.int .i64 (dH k:Int)] w (YK (T,dH k) g w t S C):=by
 have Ry:g<w.heap.size:=qm ho
 have hB3:=qp w t (kk k) (a_ k:Int)
 have acJ:=r9 w t (kk k) (a_ k:Int)
 have bi:=Cw w t (kk k) (a_ k:Int)
 have Cy:=hide (Cu (jU w t (kk k) (a_ k:Int)) g cap ms (a_ k) (w.heap.size+1+1) hN (own_below ho hB3 (Nat.le_refl _)) bi.cell (by omega))
 have hfl:(ms.filter fun m=>decide (m≠a_ k)).length<=1000000000000:=Nat.le_trans (List.length_filter_le _ _) hN
 have hpos:0<(ms.filter fun m=>decide (m≠a_ k)).length:=List.length_pos_of_mem hms
 have M7:=hide (fun w1 (h1:w1.ownsRow 0 3 1 (.slice (some ⟨g,0,none⟩) (ms.filter fun m=>decide (m≠a_ k)).length cap) (ms.filter fun m=>decide (m≠a_ k)).length (ints (az (ms.filter fun m=>decide (m≠a_ k)))))=>Cv w1 g cap (ms.filter fun m=>decide (m≠a_ k)) (dH k) hfl h1)
 rw [decide_eq_true hms] at M7
 have ci:=bi.cell
 have HW3:Hid (jU w t (kk k) (a_ k:Int)=((w.alloc (.cells #[.pointer (some ⟨t.tb,0,none⟩)] 86)).alloc (.cells #[.int .i64 (kk k)] 133)).alloc (.cells #[.int .i64 (a_ k:Int)] 3)):=rfl
 have HBI:=hide bi
 have HB3:=hide hB3
 clear bi hB3 ho hms
 generalize jU w t (kk k) (a_ k:Int)=W3 at *
 generalize ms.filter (fun m=>decide (m≠a_ k))=fs at *
 generalize (a_ k:Int)=iv at *
 generalize hrv:(dH k:Int)=rv at *
 generalize kk k=kv at *
 have hW3:=aa HW3
 clear HW3
 have hne:¬ ((fs.length:Int)=0):=by omega
 go_enter Tryz.func113,Tryz.ntmps113
 go_wp2_with (first
  | (go_at_call 157;rw [<-hW3];refine (aa Cy).mono ?_;clear Cy;rintro e w1 ⟨rfl,zt,HG1⟩)
  | (go_at_call 159;refine (aa M7 _ (aa zt)).mono ?_;clear M7;rintro e w2 ⟨rfl,rfl⟩))
 go_ret
 have hw1:=aa HG1
 refine ⟨by rw [<-hrv];rfl,t,Cx h (aa HB3) hw1 hg,?_⟩
 exact M5.of (aa HB3) hw1 (bg.refl _ _)
end
end Go.Proofs.YtfolanohokflkaaGreatDoor
namespace Go.Proofs.YtfolanohokflkaaGreatDoor
open Go.RowKit Go.Shelf
attribute [local go_sem] Oper.semAt_some
def stepJ (k:Bool) (R:List Te×Nat) (x:Nat):List Te×Nat:=dR R.1 (bZ k x R.2)
def JP (k:Bool) (T:List Te) (z:Nat) (ns:List Nat) (pre:List (Fin ns.length)):List Te×Nat:=(pre.map fun x=>ns[x.val]).foldl (stepJ k) (T,z)
theorem O4 (k:Bool) (T:List Te) (z:Nat) (ns:List Nat) (pre:List (Fin ns.length)) (x:Fin ns.length):JP k T z ns (pre++[x])=stepJ k (JP k T z ns pre) ns[x.val]:=by simp [JP]
theorem Cz (k:Bool) (T:List Te) (z:Nat):∀ ns:List Nat,joinL T k (ns++[z])=ns.reverse.foldl (stepJ k) (T,z)
 | []=>rfl
 | a::ns=>by
  rw [List.reverse_cons,List.foldl_append,<-Cz k T z ns]
  obtain ⟨b,r,e⟩:∃ b r,ns++[z]=b::r:=by
   cases ns with
   | nil=>exact ⟨_,_,rfl⟩
   | cons b r=>exact ⟨_,_,rfl⟩
  rw [List.cons_append,e]
  rfl
theorem abe (k:Bool) (T:List Te) (z:Nat) (ns:List Nat):JP k T z ns (O0 ns.length)=joinL T k (ns++[z]):=by
 rw [Cz]
 unfold JP O0
 rw [List.map_reverse]
 congr 2
 apply List.ext_getElem
 ·simp
 ·intro i h1 h2
  simp
theorem O5 {T:List Te} {k:Bool} {i j:Nat} (h:i<T.length) (h':j<T.length):Am T (bZ k i j):=.inr (.inr (.inl ⟨by cases k<;>simp [bZ,kk],⟨i,h,rfl⟩,j,h',rfl⟩))
theorem YL {k:Bool} {i j:Nat} (h:i<=gB) (h':j<=gB):zb (bZ k i j):=⟨by cases k;exact adl;exact adm,uo,lQ h,lQ h'⟩
theorem Ki {k:Bool} {T:List Te}:∀ (l:List Nat) (R:List Te×Nat),Ext T R->(∀ x∈l,x<T.length)->Ext T (l.foldl (stepJ k) R)/\(l.foldl (stepJ k) R).1.length<=R.1.length+l.length
 | [],R,h,_=>⟨h,by simp⟩
 | x::l,R,h,hx=>by
  have h1:Ext T (stepJ k R x):=h.trans (Ext.keep h.wf (O5 (Nat.lt_of_lt_of_le (hx x (List.mem_cons_self ..)) h.len) h.lt))
  have h2:(stepJ k R x).1.length<=R.1.length+1:=by
   unfold stepJ
   rcases dY R.1 (bZ k x R.2) with ⟨_,_,_,e⟩ | ⟨_,e⟩<;>rw [e]<;>simp
  obtain ⟨h3,h4⟩:=Ki l (stepJ k R x) h1 fun y hy=>hx y (List.mem_cons_of_mem _ hy)
  rw [List.foldl_cons,List.length_cons]
  exact ⟨h3,by omega⟩
theorem aag {k:Bool} {T:List Te} {z:Nat} {ns:List Nat} (hw:uz T) (hz:z<T.length) (hn:∀ x∈ns,x<T.length) (pre:List (Fin ns.length)):Ext T (JP k T z ns pre)/\(JP k T z ns pre).1.length<=T.length+pre.length:=by
 have:=Ki (k:=k) (T:=T) (pre.map fun x=>ns[x.val]) (T,z) (Ext.refl hw hz) (fun x hx=>by
  obtain ⟨y,_,rfl⟩:=List.mem_map.1 hx
  exact hn _ (List.getElem_mem _))
 rwa [List.length_map] at this
theorem RJ {ns:List Nat} {z j:Nat} (hj:j<ns.length):(az (ns++[z])).getD j 0=(ns[j]:Int):=by
 rw [ig,List.getD_eq_getElem?_getD,List.getElem?_append_left (by rw [aO];exact hj)]
 simp [az,hj]
def JwI (w w0:World) (t:TB) (S C:List (Value×Value)) (k:Bool) (T:List Te) (z:Nat) (ns:List Nat) (Bt Bk Bn:Nat) (kp:Nat->Prop) (pre:List (Fin ns.length)) (W:World):Prop:=
 ∃ t',Hid (aZ W t' (JP k T z ns pre).1 (au (JP k T z ns pre).1) S C)/\Hid (bg t t' w W)/\(¬ TF t' Bt/\¬ TF t' Bk/\¬ TF t' Bn/\∀ i,kp i->¬ TF t' i)/\Boxed W Bn 3 (.int .i64 ((JP k T z ns pre).2:Int))/\Boxed W Bt 86 (.pointer (some ⟨t.tb,0,none⟩))/\Boxed W Bk 133 (.int .i64 (kk k))/\w0.heap.size<=W.heap.size
theorem JwI.own {w w0:World} {t:TB} {S C:List (Value×Value)} {k:Bool} {T:List Te} {z:Nat} {ns:List Nat} {Bt Bk Bn:Nat} {kp:Nat->Prop} (hn:t.nb<w0.heap.size/\t.sb<w0.heap.size/\t.cb<w0.heap.size) (hw0:w.heap.size<=w0.heap.size):OwnFrom w0.heap.size (JwI w w0 t S C k T z ns Bt Bk Bn kp):=by
 rintro s W W' row ⟨t',h1,h2,h3,h4,h5,h5',h6⟩ hg hr
 have f:=aa h2
 have hc:∀ (k:Nat) (cs:Array Value) (ty:TypeId) (z:Nat×Nat),W.heap[k]? = some (.cells cs ty z)->some k≠row:=fun k cs ty z e er=>by
  obtain ⟨_,o,ho,hcs⟩:=hr k er.symm
  rw [e] at ho
  cases ho
  cases hcs
 have hm:∀ k,TF t' k->k<W.heap.size->W'.heap[k]? = W.heap[k]? := fun k hk hl=>by
  refine hg.block k hl (fun er=>?_)
  have hge:=(hr k er.symm).1
  have g1:=aa h1
  rcases hk with rfl | rfl | rfl | rfl | e
  ·exact hc _ _ _ _ g1.tb er
  ·rw [f.nb] at hge;omega
  ·rw [f.sb] at hge;omega
  ·rw [f.cb] at hge;omega
  ·obtain ⟨_,hx | ⟨g,cap,cur,hv,hb',hg',rest⟩⟩:=g1.row
   ·have:t'.ta=none:=by injection hx.1
    simp [TB.row,this] at e
   ·injection hv with e1
    simp [TB.row,e1] at e
    subst e
    exact hc _ _ _ _ hg' er
 refine ⟨t',hide ((aa h1).move hm),hide ⟨hg.os.trans f.os,hg.tape.trans f.tape,hg.output.trans f.output,Nat.le_trans f.size hg.size,fun k hk hf=>?_,f.tb,f.nb,f.sb,f.cb,f.row⟩,h3,h4.kept hg (hc _ _ _ _ h4),h5.kept hg (hc _ _ _ _ h5),h5'.kept hg (hc _ _ _ _ h5'),Nat.le_trans h6 hg.size⟩
 exact (hg.block k (Nat.lt_of_lt_of_le hk f.size) (fun er=>by have:=(hr k er.symm).1;omega)).trans (f.block k hk hf)
section
variable {w:World} {t:TB} {T:List Te} {S C:List (Value×Value)} {k:Bool} {ms:List Nat} {g cap:Nat}
set_option maxRecDepth 100000 in
set_option maxHeartbeats 4000000 in
theorem RL {ns:List Nat} {z:Nat} (h:Hid (aZ w t T (au T) S C)) (hw:uz T) (hms:ms.filter (fun m=>decide (m≠a_ k))=ns++[z]) (hru:dH k∉ns++[z]) (hin:∀ x∈ns++[z],x<T.length) (hN:ms.length<=1000000000000) (hfl:(ns++[z]).length<=1000000) (hL:T.length+ns.length<=gB) (ho:w.ownsRow 0 3 1 (.slice (some ⟨g,0,none⟩) ms.length cap) ms.length (ints (az ms))) (hg:¬ TF t g) :
  Calls Tryz.prog 113 #[.pointer (some ⟨t.tb,0,none⟩),.int .i64 (kk k),.slice (some ⟨g,0,none⟩) ms.length cap,.int .i64 (a_ k:Int),.int .i64 (dH k:Int)] w (YK (joinL T k (ns++[z])) g w t S C):=by
 have Ry:g<w.heap.size:=qm ho
 have hB3:=qp w t (kk k) (a_ k:Int)
 have acJ:=r9 w t (kk k) (a_ k:Int)
 have bi:=Cw w t (kk k) (a_ k:Int)
 have bt:=Ve w t (kk k) (a_ k:Int)
 have bk:=Vf w t (kk k) (a_ k:Int)
 have Cy:=hide ((callsIn_wide (n:=7)).2 (Cu (jU w t (kk k) (a_ k:Int)) g cap ms (a_ k) (w.heap.size+1+1) hN (own_below ho hB3 (Nat.le_refl _)) bi.cell (by omega)))
 rw [hms] at Cy
 have hfs:(ns++[z]).length=ns.length+1:=by simp
 have M7:=hide (fun w1 (h1:w1.ownsRow 0 3 1 (.slice (some ⟨g,0,none⟩) (ns++[z]).length cap) (ns++[z]).length (ints (az (ns++[z]))))=>(callsIn_wide (n:=7)).2 (Cv w1 g cap (ns++[z]) (dH k) (by omega) h1))
 rw [decide_eq_false hru] at M7
 have HW3:Hid (jU w t (kk k) (a_ k:Int)=((w.alloc (.cells #[.pointer (some ⟨t.tb,0,none⟩)] 86)).alloc (.cells #[.int .i64 (kk k)] 133)).alloc (.cells #[.int .i64 (a_ k:Int)] 3)):=rfl
 have HBI:=hide bi
 have O6:=hide bt
 have adD:=hide bk
 have HB3:=hide hB3
 have YM:=hide hin
 clear bi bt bk hB3 ho hms hru hin
 generalize jU w t (kk k) (a_ k:Int)=W3 at *
 generalize (a_ k:Int)=iv at *
 generalize (dH k:Int)=rv at *
 have hW3:=aa HW3
 clear HW3
 refine (callsIn_wide (n:=8)).1 ?_
 refine callsIn_of_wp_marks Tryz.func113 rfl trivial ?_ rfl
 simp only [Tryz.ntmps113,List.size_toArray,List.length_cons,List.length_nil,Nat.reduceAdd,Nat.reduceSub,Array.replicate_succ,Array.replicate_zero,List.push_toArray,List.append_toArray,List.nil_append,List.cons_append]
 have HBK:=hide (fun a ln cap W=>aaf 7 a ln cap W)
 have hf:Fence.wide.fn 115:=trivial
 have hf2:Fence.wide.fn 157:=trivial
 have hf3:Fence.wide.fn 159:=trivial
 rw [hfs] at Cy M7
 have hne:¬ ((ns.length:Int)+1=0):=by omega
 gi_wp2_with (first
  | (gi_at_call 157;rw [<-hW3];refine (aa Cy).mono ?_;clear Cy;rintro e w1 ⟨rfl,zt,HG1⟩;have adX:((ns.length:Int)+1)<=(cap:Int):=(by have:=zZ (aa zt);omega);have cz:w1.cell? ⟨g,ns.length,none⟩=some (.int .i64 (z:Int)):=(by have:=qo (l:=ns++[z]) hfs (aa zt) ns.length (by rw [aO,hfs];omega);rw [Nat.zero_add] at this;rw [this];simp [az]))
  | (gi_at_call 159;refine (aa M7 _ (aa zt)).mono ?_;rintro e w2 ⟨rfl,rfl⟩)
  | (gi_at_call 115;refine (aa HBK _ _ _ _).mono ?_;rintro e w2 ⟨rfl,rfl⟩))
 have Vg:=aa HG1
 have acK:Hid (Below w.heap.size w W3/\W3.grownBy w2 (some g)):=⟨aa HB3,Vg⟩
 have hs2:w.heap.size+3<=w2.heap.size:=by have:=Vg.size;omega
 have bT2:Boxed w2 w.heap.size 86 (.pointer (some ⟨t.tb,0,none⟩)):=(aa O6).kept Vg (by intro e;injection e with e;omega)
 have bK2:Boxed w2 (w.heap.size+1) 133 (.int .i64 (kk k)):=(aa adD).kept Vg (by intro e;injection e with e;omega)
 have HT2:=Cx h (aa HB3) Vg hg
 obtain ⟨Bn,hBn⟩:∃ Bn,w2.heap.size=Bn:=⟨_,rfl⟩
 have s4:(w2.alloc (.cells #[.int .i64 (z:Int)] 3)).heap.size=Bn+1:=by rw [World.size_alloc,hBn]
 have bN:=(Boxed.new w2 3 (.int .i64 (z:Int))).alloc (.cells #[.slice (some ⟨g,0,none⟩) ns.length cap] 31)
 have bS:=Boxed.new (w2.alloc (.cells #[.int .i64 (z:Int)] 3)) 31 (.slice (some ⟨g,0,none⟩) ns.length cap)
 have bT:=(bT2.alloc (.cells #[.int .i64 (z:Int)] 3)).alloc (.cells #[.slice (some ⟨g,0,none⟩) ns.length cap] 31)
 have bK:=(bK2.alloc (.cells #[.int .i64 (z:Int)] 3)).alloc (.cells #[.slice (some ⟨g,0,none⟩) ns.length cap] 31)
 rw [s4] at bS
 rw [hBn] at bN
 have kV:Hid (Below w2.heap.size w2 ((w2.alloc (.cells #[.int .i64 (z:Int)] 3)).alloc (.cells #[.slice (some ⟨g,0,none⟩) ns.length cap] 31))):=((Below.refl _ w2).alloc (Nat.le_refl _) _).alloc (by rw [s4];omega) _
 have hsz:((w2.alloc (.cells #[.int .i64 (z:Int)] 3)).alloc (.cells #[.slice (some ⟨g,0,none⟩) ns.length cap] 31)).heap.size=Bn+2:=by rw [World.size_alloc,s4]
 obtain ⟨W5,hW5⟩:∃ W5,(w2.alloc (.cells #[.int .i64 (z:Int)] 3)).alloc (.cells #[.slice (some ⟨g,0,none⟩) ns.length cap] 31)=W5:=⟨_,rfl⟩
 rw [hW5] at bN bS bT bK kV hsz ⊢
 rw [hBn]
 clear hW5 s4
 have aeg:w.heap.size+3<=Bn:=by omega
 have qN:=aZ.below HT2 (aa kV)
 have LM:Hid (bg t t w2 W5):=bg.below (aa kV)
 have hnw:∀ i,w.heap.size<=i->¬ TF t i:=fun i hi=>aZ.dX h hi
 have aeh:w2.heap.size<=W5.heap.size:=(aa kV).size
 have hkl:∀ i,(i=g\/i=Bn+1)->i<W5.heap.size:=fun i hi=>by rw [hsz];omega
 have hNs:U_ W5 (fun i=>i=g\/i=Bn+1) (.slice (some ⟨g,0,none⟩) ns.length cap) ns:=.inr ⟨g,cap,rfl,.inl rfl,fun j hj=>by
  rw [(aa kV).cell (p:=⟨g,j,none⟩) (by show g<w2.heap.size;omega)]
  have:=qo (l:=ns++[z]) hfs (aa zt) j (by rw [aO,hfs];omega)
  rw [Nat.zero_add] at this
  rw [this]
  rw [RJ hj]⟩
 have hseq:=Kb 7 (by omega) (Bn+1) (fun i=>i=g\/i=Bn+1) (.slice (some ⟨g,0,none⟩) ns.length cap) ns (by omega) W5 (.inr rfl) hkl bS.cell hNs
 have hfn:Fence.wide.fn 84:=trivial
 have hg5:=aa qN
 have hnb:t.nb<W5.heap.size/\t.sb<W5.heap.size/\t.cb<W5.heap.size:=⟨hg5.foot (.inr (.inl rfl)),hg5.foot (.inr (.inr (.inl rfl))),hg5.foot (.inr (.inr (.inr (.inl rfl))))⟩
 refine wpIn_rangeFunc_ownH rfl (by omega) (gf:=162) (lb:=#[.pointer (some ⟨Bn+1,0,none⟩)]) rfl trivial (enters_of Tryz.func162 (by kernel_rfl) rfl)
  hseq Lx.trans (fun W l o o' hl ho hc1 hc2=>⟨by simp,fun i hi hil=>by
   have:=hkl i hi
   exact (grownBy_putObj' W l o').block i hil (fun e=>by cases e;omega)⟩) (Below.refl _ _) (fun _=>rfl)
  (JwI w2 W5 t S C k T z ns w.heap.size (w.heap.size+1) Bn (fun i=>i=g\/i=Bn+1)) (fun _ _ _=>False)
  (JwI.own hnb (aa LM).size) (fun _ _ _ _ _ hs _ _=>hs)
  ⟨t,qN,LM,⟨hnw _ (by omega),hnw _ (by omega),hnw _ (by omega),fun i hi=>hi.elim (fun e=>by rw [e];exact hg) (fun e=>hnw i (by omega))⟩,bN,bT,bK,Nat.le_refl _⟩
  (fun x a' _=>a'={ tmps:=#[(.pointer (some ⟨t.tb,0,none⟩)),(.int .i64 (kk k)),(.slice (some ⟨g,0,none⟩) (ns.length+1) cap),(.int .i64 iv),(.int .i64 rv),(.pointer (some ⟨w.heap.size,0,none⟩)),(.pointer (some ⟨w.heap.size+1,0,none⟩)),undef,(.pointer (some ⟨w.heap.size+1+1,0,none⟩)),undef,(.int .i64 0),(.int .i64 (ns.length:Int)),(.pointer (some ⟨Bn,0,none⟩)),undef,(.int .i64 (ns[x.val]:Int)),(.slice (some ⟨g,0,none⟩) ms.length cap),(.func (.func 158) #[] #[.pointer (some ⟨w.heap.size+1+1,0,none⟩)]),(.slice (some ⟨g,0,none⟩) (ns.length+1) cap),(.slice (some ⟨g,0,none⟩) (ns.length+1) cap),(.int .i64 ((ns.length:Int)+1)),(.bool false),undef,(.slice (some ⟨g,0,none⟩) (ns.length+1) cap),(.int .i64 rv),(.bool false),undef,(.slice (some ⟨g,0,none⟩) (ns.length+1) cap),(.int .i64 ((ns.length:Int)+1)),(.int .i64 (ns.length:Int)),(.slice (some ⟨g,0,none⟩) (ns.length+1) cap),(.int .i64 (ns.length:Int)),(.pointer (some ⟨g,ns.length,none⟩)),(.int .i64 (z:Int)),(.slice (some ⟨g,0,none⟩) (ns.length+1) cap),(.int .i64 (ns.length:Int)),(.slice (some ⟨g,0,none⟩) ns.length cap),(.func (.func 162) #[] #[.pointer (some ⟨Bn+1,0,none⟩)]),(.int .i64 (x.val:Int)),(.int .i64 (ns[x.val]:Int)),undef,undef,undef,undef,undef,undef,undef],defers:=[] })
  (fun x a' _ X Y row hs hg hr=>hs)
  ?assign ?body ?done ?stop
 case assign=>
  intro l pre x W K hI hK
  simp only [Vb]
  gi_wp2
  exact hK _ _ (KeepsFrom.refl _ _) (Lx.refl _ _) hI rfl
 case body=>
  rintro l pre x a' W hl' - ⟨t',H1,H2,⟨a1,a2,a3,a4⟩,b4,b5,b5',b6⟩ rfl hlt
  obtain ⟨hE,hEl⟩:=aag (k:=k) hw (aa YM z (by simp)) (fun y hy=>aa YM y (List.mem_append_left _ hy)) pre
  obtain ⟨hE2,M0⟩:=aag (k:=k) hw (aa YM z (by simp)) (fun y hy=>aa YM y (List.mem_append_left _ hy)) (pre++[x])
  have hxl:ns[x.val]<T.length:=aa YM _ (List.mem_append_left _ (List.getElem_mem _))
  have hlen:=hE.len
  have hpl:(pre++[x]).length=pre.length+1:=by simp
  rw [O4,hpl] at M0
  have hlt2:=hE.lt
  have hCH:=lN (S:=S) (C:=C) H1 (YL (k:=k) (i:=ns[x.val]) (j:=(JP k T z ns pre).2) (by omega) (by omega)) (O5 (by omega) hE.lt) (Nat.le_trans M0 (by omega))
  rw [(aa H2).tb] at hCH
  have HSN:=hide (O4 k T z ns pre x)
  rw [show dR (JP k T z ns pre).1 (bZ k ns[x.val] (JP k T z ns pre).2)=JP k T z ns (pre++[x]) from (aa HSN).symm] at hCH
  have M3:=hide ((callsIn_wide (n:=5)).2 hCH)
  unfold iD bZ at M3
  dsimp only at M3
  clear hCH HSN hE hEl hE2 M0 hxl hlen hlt2
  have cT:=b5.cell
  have cK:=b5'.cell
  have cN:=b4.cell
  generalize ns[x.val]=nx at *
  generalize (JP k T z ns pre).2=r0 at *
  obtain ⟨r1,hr1⟩:∃ r1,(JP k T z ns (pre++[x])).2=r1:=⟨_,rfl⟩
  gi_wp2_with (gi_at_call 84;refine (aa M3).mono ?_;clear M3;rintro e w3 ⟨rfl,t2,HT2',HF2'⟩;have c4:=hide ((aa HF2').block _ b4.lt a3);have b4':Boxed w3 Bn 3 (.int .i64 (r0:Int)):=(aa c4).trans b4;have f4:=b4'.frozen;have c4':=b4'.cell)
  have g2:=aa HF2'
  have h2:=aa H2
  have gs:=grownBy_setCell' w3 Bn (.int .i64 (r1:Int))
  have hN':Bn<W.heap.size:=b4.lt
  have hft':∀ i,i<W.heap.size->¬ TF t' i->¬ TF t2 i:=fun i hi hn' hf'=>(g2.foot hf').elim hn' (fun e=>by omega)
  have ZQ:=g2.size
  refine ⟨⟨Nat.le_trans ZQ gs.size,fun i o hi ho hc=>?_⟩,⟨Nat.le_trans ZQ gs.size,fun i hi hil=>?_⟩,⟨t2,hide ((aa HT2').move (fun i hi hil=>j3 _ _ _ hil (fun e=>hft' _ hN' a3 (e▸hi)))),hide ?_,⟨hft' _ (by omega) a1,hft' _ (by omega) a2,hft' _ hN' a3,fun i hi=>hft' _ (by have:=hkl i hi;omega) (a4 i hi)⟩,?_,?_,?_,?_⟩⟩
  ·have hil:i<W.heap.size:=(Array.getElem?_eq_some_iff.1 ho).1
   rw [j3 _ _ _ (by omega) (by omega),g2.block i hil (TF.cells (aa H1) h2 hnb hi ho hc)]
   exact ho
  ·have hne':i≠Bn:=by omega
   rw [j3 _ _ _ (by omega) hne']
   exact g2.block i hil (a4 i hi)
  ·have hh:=h2.trans g2
   exact ⟨hh.os,hh.tape,hh.output,Nat.le_trans hh.size gs.size,fun i hi hf'=>(j3 _ _ _ (by have:=hh.size;omega) (by omega)).trans (hh.block i hi hf'),hh.tb,hh.nb,hh.sb,hh.cb,hh.row⟩
  ·rw [hr1];exact b4'.set _
  ·have:Boxed w3 w.heap.size 86 (.pointer (some ⟨t.tb,0,none⟩)):=(g2.block _ b5.lt a1).trans b5
   exact this.other (by omega) _
  ·have:Boxed w3 (w.heap.size+1) 133 (.int .i64 (kk k)):=(g2.block _ b5'.lt a2).trans b5'
   exact this.other (by omega) _
  ·exact Nat.le_trans b6 (Nat.le_trans ZQ gs.size)
 case done=>
  rintro D ys W hD rfl ⟨t',H1,H2,-,b4,b5,b5',b6⟩ hK
  rw [abe] at H1 b4
  have cN:=b4.cell
  obtain ⟨R,hR⟩:∃ R,joinL T k (ns++[z])=R:=⟨_,rfl⟩
  rw [hR] at H1 b4 cN ⊢
  gi_wp2
  subst hR
  refine ⟨by simp,.inl ⟨_,_,rfl,run_takeDeferred hK,?_⟩⟩
  have hDn:¬ TF t' D:=TF.cells (aa H1) (aa H2) hnb hD hK rfl
  have hg2:=grownBy_putObj' W D (.deferred none)
  refine ⟨_,results_tmp rfl _ _ _,rfl,t',hide ((aa H1).move fun i hi hil=>hg2.block i hil (fun e=>by cases e;exact hDn hi)),hide (M5.of (aa acK).1 (aa acK).2 ?_)⟩
  have h2:=aa H2
  exact ⟨hg2.os.trans h2.os,hg2.tape.trans h2.tape,hg2.output.trans h2.output,Nat.le_trans h2.size hg2.size,fun i hi hf'=>(hg2.block i (by have:=h2.size;omega) (fun e=>by cases e;omega)).trans (h2.block i hi hf'),h2.tb,h2.nb,h2.sb,h2.cb,h2.row⟩
 case stop=>
  rintro D c pre W _ _ hF _
  exact hF.elim
theorem YN {l:List Nat} (h:l≠[]):∃ ns z,l=ns++[z]:=⟨l.dropLast,l.getLast h,(List.dropLast_concat_getLast h).symm⟩
theorem wO (h:Hid (aZ w t T (au T) S C)) (hw:uz T) (hin:∀ x∈ms,x<T.length) (hN:ms.length<=1000000000000) (hL:dH k∉ms.filter (fun m=>decide (m≠a_ k))->T.length+(ms.filter fun m=>decide (m≠a_ k)).length<=gB/\(ms.filter fun m=>decide (m≠a_ k)).length<=1000000) (ho:w.ownsRow 0 3 1 (.slice (some ⟨g,0,none⟩) ms.length cap) ms.length (ints (az ms))) (hg:¬ TF t g) :
  Calls Tryz.prog 113 #[.pointer (some ⟨t.tb,0,none⟩),.int .i64 (kk k),.slice (some ⟨g,0,none⟩) ms.length cap,.int .i64 (a_ k:Int),.int .i64 (dH k:Int)] w (YK (iG T k ms) g w t S C):=by
 unfold iG
 split
 ·rename_i e
  exact RI h e hN ho hg
 ·rename_i e
  split
  ·rename_i e2
   exact M6 h e2 hN ho hg
  ·rename_i e2
   obtain ⟨ns,z,e3⟩:=YN e
   have hL':=hL e2
   rw [e3] at e2 hL' ⊢
   exact RL h hw e3 e2 (fun x hx=>hin x (List.mem_filter.1 (by rw [e3];exact hx)).1) hN hL'.2 (by have:=hL'.1;rw [List.length_append] at this;simp at this;omega) ho hg
end
end Go.Proofs.YtfolanohokflkaaGreatDoor
namespace Go.Proofs.YtfolanohokflkaaGreatDoor
open Go.RowKit
theorem M8 {a:af} (h:Tidy a):iO a=a:=iN (iP h.pos) h fun _ hc=>o5 h.pos hc
set_option maxRecDepth 100000 in
set_option maxHeartbeats 4000000 in
theorem Fb (w:World) (a b:af) (ha:a.length<=490) (hb:b.length<=490) (Vh:Tidy a) (htb:Tidy b) :
  Calls Tryz.prog 114 #[.string (encS a),.string (encS b)] w fun e w'=>e=.returned (.string (encS (qH a b)))/\Hid (Below w.heap.size w w'):=by
 have HP:=hide (jN w a (by omega) (bB Vh))
 have Ot:=hide (fun w2=>jN w2 b (by omega) (bB htb))
 have hgood:∀ p∈a++b,jB p:=fun p hp=>(List.mem_append.1 hp).elim (bB Vh p) (bB htb p)
 have Gd:iO (a++b)=qH a b:=by
  rw [<-BH (bB Vh) (bB htb)]
  congr 1
  exact M8 Vh
 have hlen:(a++b).length=a.length+b.length:=List.length_append
 have HSO:=hide (fun w3 sv (hI:vG w3.heap.size w3 sv (a++b))=>o7 w3 sv (a++b) (by omega) hI hgood)
 rw [Gd] at HSO
 generalize encS a=sa at HP
 generalize encS b=sb at Ot
 generalize encS (qH a b)=sc at HSO ⊢
 clear Vh htb hgood Gd
 go_enter Tryz.func114,Tryz.ntmps114
 go_wp2_with (first
  | (go_at_call 161;refine (aa HP).mono ?_;clear HP;rintro e w1 ⟨v1,rfl,hrow,hb1⟩;have HB1:=hide hb1;have HR1:=hide hrow;clear hrow hb1)
  | (go_at_call 161;refine (aa Ot _).mono ?_;clear Ot;rintro e w3 ⟨v3,rfl,hrow,hb3⟩;have HB3:=hide hb3;have HR3:=hide hrow;clear hrow hb3;have HR1':=hide (own_below (aa HR1) (aa HB3) (Nat.le_refl _));have hs3:w.heap.size<=w3.heap.size:=Nat.le_trans (aa HB1).size (aa HB3).size)
  | (at_builtin;refine JZ w.heap.size w1.heap.size w3 a b v1 v3 (.tmp 6) (.tmp 8) rfl rfl rfl rfl HR1' HR3 hs3 (by omega) ?_;intro ao4 n4 cap4 w4 xR Yc)
  | (go_at_call 160;refine (aa HSO w4 _ (nk (aa xR))).mono ?_;clear HSO;rintro e w5 ⟨rfl,hb5⟩;have kV:=hide hb5;clear hb5))
 go_ret
 refine ⟨rfl,?_⟩
 have b1:=aa HB1
 have b3:=b1.trans ((aa HB3).mono b1.size)
 have b4:=below_grown b3 (aa HR1') (aa Yc) hs3
 exact b4.trans ((aa kV).mono b4.size)
theorem YO {a b:af} (ha:Tidy a) (hb:Tidy b):fH (qH (fH a) (fH b))=Iw a b:=by
 have h1:=dD (a:=a) ha.pos
 have h2:=dD (a:=b) hb.pos
 have h3:=ja h1.pos h2.pos
 refine iN (dD h3.pos) (xE ha.pos hb.pos) fun c hc=>?_
 rw [kC h3.pos hc,nZ h1.pos h2.pos hc,kC ha.pos hc,kC hb.pos hc,vJ ha.pos hb.pos hc]
 cases dw a c<;>cases dw b c<;>rfl
set_option maxRecDepth 100000 in
set_option maxHeartbeats 4000000 in
theorem M9 (w:World) (a b:af) (ha:a.length<=490/\(fH a).length<=490) (hb:b.length<=490/\(fH b).length<=490) (hc:(qH (fH a) (fH b)).length<=900) (Vh:Tidy a) (htb:Tidy b) :
  Calls Tryz.prog 112 #[.string (encS a),.string (encS b)] w fun e w'=>e=.returned (.string (encS (Iw a b)))/\Hid (Below w.heap.size w w'):=by
 have h1:=dD (a:=a) Vh.pos
 have h2:=dD (a:=b) htb.pos
 have zt:=hide (ny w a (by omega) Vh)
 have jl:=hide (fun w2=>ny w2 b (by omega) htb)
 have HU:=hide (fun w3=>Fb w3 (fH a) (fH b) ha.2 hb.2 h1 h2)
 have p8:=hide (fun w4=>ny w4 (qH (fH a) (fH b)) hc (ja h1.pos h2.pos))
 rw [YO Vh htb] at p8
 clear h1 h2 Vh htb hc
 generalize encS a=sa at *
 generalize encS b=sb at *
 generalize encS (fH a)=sa2 at *
 generalize encS (fH b)=SN at *
 generalize encS (qH (fH a) (fH b))=sc at *
 generalize encS (Iw a b)=sd at *
 go_enter Tryz.func112,Tryz.ntmps112
 go_wp2_with (first
  | (go_at_call 156;refine (aa zt).mono ?_;clear zt;rintro e w1 ⟨rfl,hb1⟩;have HB1:=hide hb1;clear hb1)
  | (go_at_call 156;refine (aa jl _).mono ?_;clear jl;rintro e w2 ⟨rfl,hb2⟩;have HB2:=hide hb2;clear hb2)
  | (go_at_call 114;refine (aa HU _).mono ?_;clear HU;rintro e w3 ⟨rfl,HB3⟩)
  | (go_at_call 156;refine (aa p8 _).mono ?_;clear p8;rintro e w4 ⟨rfl,hb4⟩;have p9:=hide hb4;clear hb4))
 go_ret
 refine ⟨rfl,?_⟩
 have b1:=aa HB1
 have b2:=b1.trans ((aa HB2).mono b1.size)
 have b3:=b2.trans ((aa HB3).mono b2.size)
 exact b3.trans ((aa p9).mono b3.size)
end Go.Proofs.YtfolanohokflkaaGreatDoor
namespace Go.Proofs.YtfolanohokflkaaGreatDoor
open Go.RowKit
theorem Vi (B:List Int) (hB:B.length<=480) (w:World) (a b:af) (ha:Tidy a) (ha2:bY B a) (hb:Tidy b) (hb2:bY B b) :
  Calls Tryz.prog 114 #[.string (encS a),.string (encS b)] w fun e w'=>e=.returned (.string (encS (gN false a b)))/\Hid (Below w.heap.size w w'):=by
 have h1:=fZ ha ha2
 have h2:=fZ hb hb2
 exact Fb w a b (by omega) (by omega) ha hb
theorem YP (B:List Int) (hB:B.length<=480) (w:World) (a b:af) (ha:Tidy a) (ha2:bY B a) (hb:Tidy b) (hb2:bY B b) :
  Calls Tryz.prog 112 #[.string (encS a),.string (encS b)] w fun e w'=>e=.returned (.string (encS (gN true a b)))/\Hid (Below w.heap.size w w'):=by
 have h1:=fZ ha ha2
 have h2:=fZ hb hb2
 have t1:=dD (a:=a) ha.pos
 have t2:=dD (a:=b) hb.pos
 have h3:=fZ (ja t1.pos t2.pos) (xZ t1.pos t2.pos (tq ha.pos ha2) (tq hb.pos hb2))
 exact M9 w a b (by omega) (by omega) (by omega) ha hb
set_option maxRecDepth 100000 in
set_option maxHeartbeats 4000000 in
theorem M_ (B:List Int) (hB:B.length<=480) (w:World) (g cap:Nat) (s:af) (r:List af) (hc:∀ j x,(s::r)[j]? = some x->w.cell? ⟨g,j,none⟩=some (.string (encS x))) (hcap:r.length+1<=cap) (hlt:g<w.heap.size) (hn:r.length<=1000000000000) (hs:∀ x∈s::r,Tidy x/\bY B x) :
  Calls Tryz.prog 111 #[.slice (some ⟨g,0,none⟩) (r.length+1) cap,fv 114] w fun e w'=>e=.returned (.string (encS (r.foldl (gN false) s)))/\Hid (Below w.heap.size w w'):=by
 have HW:=hide (fun w a b (ha:Tidy a/\bY B a) (hb:Tidy b/\bY B b)=>Vi B hB w a b ha.1 ha.2 hb.1 hb.2)
 have hcf:∀ (args:Array Value) (w:World),(callFunc 114 args).run Tryz.prog w=.ok (.enter 114 args) w:=aM Tryz.func114 (by kernel_rfl) (by kernel_rfl)
 have c0:=hc 0 s rfl
 have HC:=hide hc
 have HS:=hide hs
 have hcI:(1:Int)<=((r.length:Int)+1):=by omega
 have adE:((r.length:Int)+1)<=(cap:Int):=by omega
 clear hc hs
 go_enter Tryz.func111,Tryz.ntmps111
 go_wp2_with fail
 ·have hr0:r.length=0:=by omega
  go_loopw [5,14] (fun m i wr=>∃ k:Nat,k<=r.length/\i=.int .i64 (k:Int)/\Hid (m=.string (encS ((r.take k).foldl (gN false) s)))/\Hid (Below w.heap.size w wr)) (fun _ i _=>r.length - (intOf i).toNat)
  case atStart=>exact ⟨0,Nat.zero_le _,rfl,rfl,Below.refl _ _⟩
  case round=>
   obtain ⟨k,hk,rfl,HM,HB⟩:=hrel
   obtain rfl:=aa HM
   by_cases hlt2:k<r.length
   ·exact absurd hlt2 (by omega)
   ·obtain rfl:k=r.length:=by omega
    rw [List.take_length]
    go_wp2_with fail
    go_ret
    exact ⟨rfl,HB⟩
 ·go_loopw [5,14] (fun m i wr=>∃ k:Nat,k<=r.length/\i=.int .i64 (k:Int)/\Hid (m=.string (encS ((r.take k).foldl (gN false) s)))/\Hid (Below w.heap.size w wr)) (fun _ i _=>r.length - (intOf i).toNat)
  case atStart=>exact ⟨0,Nat.zero_le _,rfl,rfl,Below.refl _ _⟩
  case round=>
   obtain ⟨k,hk,rfl,HM,HB⟩:=hrel
   obtain rfl:=aa HM
   by_cases hlt2:k<r.length
   ·have hx:(s::r)[k+1]? = some r[k]:=by simp [hlt2]
    have cx:=aa HC (k+1) _ hx
    rw [<-(aa HB).cell (p:=⟨g,k+1,none⟩) hlt] at cx
    have cx2:wr.cell? ⟨g,1+k,none⟩=some (.string (encS r[k])):=by rw [Nat.add_comm];exact cx
    have HT:Hid (r.take (k+1)=r.take k++[r[k]]):=List.take_succ_eq_append_getElem hlt2
    have hx2:=aa HS r[k] (List.mem_cons_of_mem _ (List.getElem_mem _))
    have hfo:=jR (B:=B) (k:=false) (l:=r.take k) (s:=s) (fun x hx=>aa HS x (List.mem_cons_of_mem _ (List.mem_of_mem_take hx))) (aa HS s (List.mem_cons_self ..)).1 (aa HS s (List.mem_cons_self ..)).2
    have Kj:=hide (fun w'=>aa HW w' _ _ hfo hx2)
    have CB:Hid (encS (gN false ((r.take k).foldl (gN false) s) r[k])=encS ((r.take (k+1)).foldl (gN false) s)):=by
     show _=_
     rw [aa HT,List.foldl_append];rfl
    clear hx cx hx2 hfo
    generalize encS ((r.take k).foldl (gN false) s)=e1 at *
    generalize encS (gN false ((r.take k).foldl (gN false) s) r[k])=e2 at *
    generalize encS r[k]=e3 at *
    have SL:(k:Int)<(r.length:Int):=by omega
    go_wp2_with (go_at_call 114;refine (aa Kj _).mono ?_;clear Kj;rintro e w2 ⟨rfl,HB2⟩)
    go_roundw
    case rel=>exact ⟨k+1,by omega,by go_num,by show _=_;rw [aa CB],(aa HB).trans ((aa HB2).mono (aa HB).size)⟩
    case measure=>simp [intOf];omega
   ·obtain rfl:k=r.length:=by omega
    rw [List.take_length]
    go_wp2_with fail
    go_ret
    exact ⟨rfl,HB⟩
set_option maxRecDepth 100000 in
set_option maxHeartbeats 4000000 in
theorem RN (B:List Int) (hB:B.length<=480) (w:World) (g cap:Nat) (s:af) (r:List af) (hc:∀ j x,(s::r)[j]? = some x->w.cell? ⟨g,j,none⟩=some (.string (encS x))) (hcap:r.length+1<=cap) (hlt:g<w.heap.size) (hn:r.length<=1000000000000) (hs:∀ x∈s::r,Tidy x/\bY B x) :
  Calls Tryz.prog 111 #[.slice (some ⟨g,0,none⟩) (r.length+1) cap,fv 112] w fun e w'=>e=.returned (.string (encS (r.foldl (gN true) s)))/\Hid (Below w.heap.size w w'):=by
 have HW:=hide (fun w a b (ha:Tidy a/\bY B a) (hb:Tidy b/\bY B b)=>YP B hB w a b ha.1 ha.2 hb.1 hb.2)
 have hcf:∀ (args:Array Value) (w:World),(callFunc 112 args).run Tryz.prog w=.ok (.enter 112 args) w:=aM Tryz.func112 (by kernel_rfl) (by kernel_rfl)
 have c0:=hc 0 s rfl
 have HC:=hide hc
 have HS:=hide hs
 have hcI:(1:Int)<=((r.length:Int)+1):=by omega
 have adE:((r.length:Int)+1)<=(cap:Int):=by omega
 clear hc hs
 go_enter Tryz.func111,Tryz.ntmps111
 go_wp2_with fail
 ·have hr0:r.length=0:=by omega
  go_loopw [5,14] (fun m i wr=>∃ k:Nat,k<=r.length/\i=.int .i64 (k:Int)/\Hid (m=.string (encS ((r.take k).foldl (gN true) s)))/\Hid (Below w.heap.size w wr)) (fun _ i _=>r.length - (intOf i).toNat)
  case atStart=>exact ⟨0,Nat.zero_le _,rfl,rfl,Below.refl _ _⟩
  case round=>
   obtain ⟨k,hk,rfl,HM,HB⟩:=hrel
   obtain rfl:=aa HM
   by_cases hlt2:k<r.length
   ·exact absurd hlt2 (by omega)
   ·obtain rfl:k=r.length:=by omega
    rw [List.take_length]
    go_wp2_with fail
    go_ret
    exact ⟨rfl,HB⟩
 ·go_loopw [5,14] (fun m i wr=>∃ k:Nat,k<=r.length/\i=.int .i64 (k:Int)/\Hid (m=.string (encS ((r.take k).foldl (gN true) s)))/\Hid (Below w.heap.size w wr)) (fun _ i _=>r.length - (intOf i).toNat)
  case atStart=>exact ⟨0,Nat.zero_le _,rfl,rfl,Below.refl _ _⟩
  case round=>
   obtain ⟨k,hk,rfl,HM,HB⟩:=hrel
   obtain rfl:=aa HM
   by_cases hlt2:k<r.length
   ·have hx:(s::r)[k+1]? = some r[k]:=by simp [hlt2]
    have cx:=aa HC (k+1) _ hx
    rw [<-(aa HB).cell (p:=⟨g,k+1,none⟩) hlt] at cx
    have cx2:wr.cell? ⟨g,1+k,none⟩=some (.string (encS r[k])):=by rw [Nat.add_comm];exact cx
    have HT:Hid (r.take (k+1)=r.take k++[r[k]]):=List.take_succ_eq_append_getElem hlt2
    have hx2:=aa HS r[k] (List.mem_cons_of_mem _ (List.getElem_mem _))
    have hfo:=jR (B:=B) (k:=true) (l:=r.take k) (s:=s) (fun x hx=>aa HS x (List.mem_cons_of_mem _ (List.mem_of_mem_take hx))) (aa HS s (List.mem_cons_self ..)).1 (aa HS s (List.mem_cons_self ..)).2
    have Kj:=hide (fun w'=>aa HW w' _ _ hfo hx2)
    have CB:Hid (encS (gN true ((r.take k).foldl (gN true) s) r[k])=encS ((r.take (k+1)).foldl (gN true) s)):=by
     show _=_
     rw [aa HT,List.foldl_append];rfl
    clear hx cx hx2 hfo
    generalize encS ((r.take k).foldl (gN true) s)=e1 at *
    generalize encS (gN true ((r.take k).foldl (gN true) s) r[k])=e2 at *
    generalize encS r[k]=e3 at *
    have SL:(k:Int)<(r.length:Int):=by omega
    go_wp2_with (go_at_call 112;refine (aa Kj _).mono ?_;clear Kj;rintro e w2 ⟨rfl,HB2⟩)
    go_roundw
    case rel=>exact ⟨k+1,by omega,by go_num,by show _=_;rw [aa CB],(aa HB).trans ((aa HB2).mono (aa HB).size)⟩
    case measure=>simp [intOf];omega
   ·obtain rfl:k=r.length:=by omega
    rw [List.take_length]
    go_wp2_with fail
    go_ret
    exact ⟨rfl,HB⟩
end Go.Proofs.YtfolanohokflkaaGreatDoor
namespace Go.Proofs.YtfolanohokflkaaGreatDoor
open Go.RowKit
theorem Kk (c:Int):(Utf8.encode c).size<=4:=by
 unfold Utf8.encode
 simp only
 repeat' split
 all_goals simp [ByteArray.size]
theorem CE:∀ l:List Int,(runesBytes l).size<=4*l.length
 | []=>by simp [runesBytes]
 | c::l=>by
  have:=CE l
  have:=Kk c
  rw [mh,ByteArray.size_append,List.length_cons]
  omega
theorem ym (l:af):(encS l).size<=8*l.length:=by
 have:=CE (bE l)
 rw [fI] at this
 unfold encS
 omega
theorem GN {w w':World} {t t':TB} {base e size n:Nat} {v:Value} {xs:List Value} (h:w.ownsRow base e size v n xs) (hf:bg t t' w w') (ha:∀ k,v.ownBlock=some k->¬ TF t k):w'.ownsRow base e size v n xs:=by
 obtain ⟨hl,hx | ⟨g,cap,cur,rfl,hb,hgr,rest⟩⟩:=h
 ·exact ⟨hl,.inl hx⟩
 ·exact ⟨hl,.inr ⟨g,cap,cur,rfl,hb,(hf.block g (Array.getElem?_eq_some_iff.1 hgr).1 (ha g rfl)).trans hgr,rest⟩⟩
theorem GQ {w w4 w5:World} {t t4:TB} {T:List Te} {N S C:List (Value×Value)} (h:aZ w4 t4 T N S C) (hf:bg t t4 w w4) (hlt:∀ k,TF t k->k<w.heap.size) (hb:Below w.heap.size w4 w5) (hk:∀ B' e' s' u m ys,e'≠3->w4.ownsRow B' e' s' u m ys->w5.ownsRow B' e' s' u m ys):aZ w5 t4 T N S C:=by
 have b1:=hlt t.tb (.inl rfl)
 have b2:=hlt t.nb (.inr (.inl rfl))
 have b3:=hlt t.sb (.inr (.inr (.inl rfl)))
 have b4:=hlt t.cb (.inr (.inr (.inr (.inl rfl))))
 exact ⟨(hb.block _ (by rw [hf.tb];exact b1)).trans h.tb,(hb.block _ (by rw [hf.nb];exact b2)).trans h.nb,(hb.block _ (by rw [hf.sb];exact b3)).trans h.sb,(hb.block _ (by rw [hf.cb];exact b4)).trans h.cb,hk _ _ _ _ _ _ (by decide) h.row,h.ne,h.nr,h.ok,h.nd⟩
theorem wP {w w4 w5:World} {t t4:TB} (hf:bg t t4 w w4) (hb:Below w.heap.size w4 w5):bg t t4 w w5:=
 ⟨hb.os.trans hf.os,hb.tape.trans hf.tape,hb.output.trans hf.output,Nat.le_trans hf.size hb.size,fun k hk hn=>(hb.block k hk).trans (hf.block k hk hn),hf.tb,hf.nb,hf.sb,hf.cb,hf.row⟩
theorem wQ {w:World} {t:TB} {T:List Te} {N S C:List (Value×Value)} (h:aZ w t T N S C) {base g n cap:Nat} {xs:List Value} (ho:w.ownsRow base 3 1 (.slice (some ⟨g,0,none⟩) n cap) n xs):¬ TF t g:=by
 obtain ⟨_,⟨hv,_⟩ | ⟨g',cap',cur,hv,_,hgr,_⟩⟩:=ho
 ·cases hv
 ·injection hv with e1
  injection e1 with e1
  injection e1 with e1
  subst e1
  rintro (rfl | rfl | rfl | rfl | e)
  ·have:=h.tb;rw [hgr] at this;injection this with q;injection q with _ q;exact absurd q (by decide)
  ·have:=h.nb;rw [hgr] at this;cases this
  ·have:=h.sb;rw [hgr] at this;cases this
  ·have:=h.cb;rw [hgr] at this;cases this
  ·obtain ⟨_,hx | ⟨g2,cap2,aei,hv2,_,hg2,_⟩⟩:=h.row
   ·have:t.ta=none:=by injection hx.1
    simp [TB.row,this] at e
   ·injection hv2 with e2
    simp [TB.row,e2] at e
    subst e
    rw [hgr] at hg2
    injection hg2 with q
    injection q with _ q
    exact absurd q (by decide)
section
variable {B:List Int} {w:World} {t:TB} {T:List Te} {S C:List (Value×Value)}
set_option maxRecDepth 100000 in
set_option maxHeartbeats 8000000 in
theorem Vj {l:List Nat} {ts:List Tm} {g0 cap0:Nat} (h:Hid (aZ w t T (au T) S C)) (hT:TI B T) (hB:B.length<=480) (hr:ic T l ts) (hne:l≠[]) (hln:l.length<=500000) (nR:∀ t∈ts,(memT false t).length<=200000) (RO:(memT false (aj false ts)).length<=200000) (hlim:T.length+(memT false (aj false ts)).length+2<=gB)
  (hc:∀ j x,(az l)[j]? = some x->w.cell? ⟨g0,j,none⟩=some (.int .i64 x)) (hg0:g0<w.heap.size) :
  Calls Tryz.prog 79 #[.pointer (some ⟨t.tb,0,none⟩),.slice (some ⟨g0,0,none⟩) l.length cap0] w fun e w'=>∃ R,Op B T R (aj false ts) ((memT false (aj false ts)).length+1)/\(∀ r,l=[r]->R=(T,r))/\FQ R w t S C e w':=by
 have hJ:=hT.toTJ
 have qD:∀ n∈l,∃ t,Rp T n t/\t∈ts:=fun n hn=>by
  obtain ⟨t,ht,_⟩:=hT.all n (hr.lt n hn)
  exact ⟨t,ht,hr.mem.2 ⟨n,hn,ht⟩⟩
 have hsp:∀ n∈l,ko T false n (gK T false n)/\(gK T false n).length<=200000:=fun n hn=>by
  obtain ⟨t,ht,htm⟩:=qD n hn
  have h1:=zX (k:=false) ht
  exact ⟨h1,Nat.le_trans (zY hT ht h1) (nR t htm)⟩
 have qC:(l.flatMap (gK T false)).length<=100000000000:=by
  have h1:=Cr (b:=200000) fun n hn=>(hsp n hn).2
  have h2:l.length*200000<=500000*200000:=Nat.mul_le_mul_right _ hln
  omega
 have hSL:=yj (k:=false) (T:=T) (l:=l) fun n hn=>(hsp n hn).1
 have Na:=hSL.kinds hJ
 obtain ⟨L,MV,YQ,OX⟩:=E_ (l.flatMap (gK T false))
 have HM:=hide (yS (cap0:=cap0) h hT.wf (fun n hn=>⟨(hsp n hn).1,by have:=(hsp n hn).2;omega⟩) hne (by omega) hc hg0 qC (fun m hm=>by
  obtain ⟨x,hx,_⟩:=Na m hm
  exact (List.getElem?_eq_some_iff.1 hx).1) MV)
 have Xo:=hide qC
 have abf:Hid (∃ m,m∈l.flatMap (gK T false)):=by
  obtain ⟨a,r,rfl⟩:∃ a r,l=a::r:=by cases l with
   | nil=>exact absurd rfl hne
   | cons a r=>exact ⟨a,r,rfl⟩
  have:=(hsp a (List.mem_cons_self ..)).1.ne
  obtain ⟨x,y,e⟩:∃ x y,gK T false a=x::y:=by
   cases hq:gK T false a with
   | nil=>exact absurd hq this
   | cons x y=>exact ⟨x,y,rfl⟩
  exact ⟨x,by rw [List.flatMap_cons,e];simp⟩
 have YR:=hide hSL
 have HKN:=hide Na
 have HR:=hide hr
 have acL:1<=(memT false (aj false ts)).length:=by
  cases hq:memT false (aj false ts) with
  | nil=>exact absurd hq (vQ _ _)
  | cons _ _=>simp
 clear hc hg0 hne hln nR qD hsp qC hSL Na hr
 have aad:L.length<=(l.flatMap (gK T false)).length:=jf (YQ.imp fun q e=>by omega) fun m hm=>(OX m).1 hm
 obtain ⟨ss,hs1,hs2,hs3⟩:=GM hT (L:=L.filter fun m=>aX T m) fun m hm=>(List.mem_filter.1 hm).2
 have l9:=hide (U2 hT (aa HR) (aa YR) YQ OX hs1 fun s hs=>(hs3 s hs).1)
 have YS:Hid (∀ r,l=[r]->Yy T false L (fJ false ss)=(T,r)):=fun r e=>by
  subst e
  cases aa HR with
  | cons h1 _=>exact Ka hT (zX (k:=false) h1) YQ (fun m=>by rw [OX m];simp) hs1
 have hsl:(L.filter fun m=>aX T m).length=ss.length:=by
  have:=congrArg List.length hs2
  simpa using this
 rw [hs2,hsl] at HM
 have hkind:∀ m∈L,∃ x,T[m]? = some x/\x.1.kd≠kk false:=fun m hm=>aa HKN m ((OX m).1 hm)
 have hns:∀ m∈L.filter (fun m=>!aX T m),¬ MP T m:=fun m hm q=>by
  have:=(List.mem_filter.1 hm).2
  rw [l7.2 q] at this;cases this
 have hbf:(L.filter fun m=>!aX T m).Pairwise (Bf T):=(YQ.filter _).imp_of_mem fun {a b} ha hb q=>⟨hns a ha,.inr q⟩
 have hM:MOk T false (L.filter fun m=>!aX T m):=⟨fun m hm=>hkind m (List.mem_filter.1 hm).1,hbf⟩
 have hfl:=aa Xo
 have hex:∀ m∈L,∃ t,Rp T m t:=fun m hm=>by
  obtain ⟨x,hx,_⟩:=hkind m hm
  obtain ⟨y,hy,_⟩:=hJ.all m (List.getElem?_eq_some_iff.1 hx).1
  exact ⟨y,hy⟩
 obtain ⟨zs,hzs⟩:=ic.of (T:=T) (l:=L.filter fun m=>!aX T m) fun m hm=>hex m (List.mem_filter.1 hm).1
 have Tj:=hide (fun i (hi:TF t i)=>(aa h).foot hi)
 have hin:∀ m∈L.filter (fun m=>!aX T m),m<T.length:=hzs.lt
 have hNl:(L.filter fun m=>!aX T m).length<=100000000000:=Nat.le_trans (List.length_filter_le _ _) (by omega)
 have Hz:=hide hM
 have HNS:=hide hns
 have HZS:=hide hzs
 have YM:=hide hin
 have hGm:=hlim
 obtain ⟨m0,hm0⟩:=aa abf
 have Vk:=(OX m0).2 hm0
 clear hM hns hzs hbf hkind hex hs1 hs2 HKN Xo YR
 cases ss with
 | nil=>
  have Vl:0<(L.filter fun m=>!aX T m).length:=by
   have:m0∈L.filter fun m=>!aX T m:=List.mem_filter.2 ⟨Vk,by
    cases hb:aX T m0 with
    | false=>rfl
    | true=>
     have hq:m0∈L.filter fun m=>aX T m:=List.mem_filter.2 ⟨Vk,hb⟩
     rw [List.eq_nil_of_length_eq_zero hsl] at hq
     cases hq⟩
   exact List.length_pos_of_mem this
  have hop:=aa l9
  have hj0:=tu hT (aa Hz) (aa HZS)
  have e1:aj false ts=aj false zs:=hop.rp.uniq hj0.rp
  have Nb:=hide (fun (w2:World) (g1 oG:Nat) (hb2:Below w.heap.size w w2) (ho1:w2.ownsRow w.heap.size 3 1 (.slice (some ⟨g1,0,none⟩) (L.filter fun m=>!aX T m).length oG) (L.filter fun m=>!aX T m).length (ints (az (L.filter fun m=>!aX T m)))) (GR:w.heap.size<=g1)=>wO (k:=false) (cap:=oG) (aZ.below h hb2) hT.wf (aa YM) (by omega) (fun hz=>by
   have:=wN hT (aa Hz) (aa HZS) hz
   rw [<-e1] at this
   omega) (eH ho1 (Nat.zero_le _)) (aZ.dX h GR))
  clear hj0 e1 hop
  rw [show ((a_ false:Nat):Int)=0 from rfl,show ((dH false:Nat):Int)=2 from rfl,show kk false=4 from rfl] at Nb
  simp only [List.length_nil] at HM
  have Nc:Hid (Op B T (iG T false (L.filter fun m=>!aX T m)) (aj false ts) ((memT false (aj false ts)).length+1)):=l9
  have Nf:Hid (∀ r0,l=[r0]->(iG T false (L.filter fun m=>!aX T m))=(T,r0)):=YS
  clear YS
  clear l9
  generalize iG T false (L.filter fun m=>!aX T m)=R at *
  generalize L.filter (fun m=>!aX T m)=NS at *
  go_enter Tryz.func79,Tryz.ntmps79
  go_wp2_with (first
   | (go_at_call 110;refine (aa HM).mono ?_;clear HM;rintro e w2 ⟨SG,ao2,oG,cap2,rfl,zt,jl,HB2⟩;obtain ⟨ao1',cap1',e1,hv1⟩:=aQ (aa zt);injection e1 with e2 e3 e4;subst e2;subst e4;obtain ⟨g1,rfl,GR,-⟩:=hv1 Vl;have HJ:=hide (aa Nb w2 g1 oG (aa HB2) (aa zt) GR);clear Nb)
   | (go_at_call 113;refine (aa HJ).mono ?_;clear HJ;rintro e w3 ⟨rfl,t3,HT3,HX3⟩))
  go_ret
  exact ⟨R,aa Nc,aa Nf,rfl,t3,HT3,(bg.below (aa HB2)).past (aa HX3) GR⟩
 | cons s r=>
  have hrl:r.length+1<=100000000000:=by
   have h1:(s::r).length=r.length+1:=rfl
   have h2:(L.filter fun m=>aX T m).length<=L.length:=List.length_filter_le _ _
   omega
  have hs0:=hs3 s (List.mem_cons_self ..)
  have hf2:=jR (B:=B) (k:=false) (l:=r) (s:=s) (fun x hx=>hs3 x (List.mem_cons_of_mem _ hx)) hs0.1 hs0.2
  have Ng:=hide (fun (w2:World) (g2 cap2:Nat) (ho2:w2.ownsRow w.heap.size 61 1 (.slice (some ⟨g2,0,none⟩) (s::r).length cap2) (s::r).length (strs ((s::r).map encS)))=>M_ B hB w2 g2 cap2 s r (fun j x hj=>by
   have hjl:j<r.length+1:=(List.getElem?_eq_some_iff.1 hj).1
   rw [ho2.cellAt j (by simp;omega)]
   unfold strs
   rw [List.getElem?_map,List.getElem?_map,hj];rfl) (zZ ho2) (ho2.lt g2 rfl).2 (by omega) hs3)
  have hfs:(r.foldl (gN false) s).length<=481:=by have:=(fZ hf2.1 hf2.2).1;omega
  have hsz:(encS (r.foldl (gN false) s)).size<=maxLen:=by
   have:=ym (r.foldl (gN false) s)
   unfold maxLen
   omega
  have hop:=aa l9
  have oQ:=Op.set hT hf2.1 hf2.2
  have hmk:=OZ hT (aa Hz) (aa HNS) hf2.1 hf2.2
  have hup:ic (fD T (encS (r.foldl (gN false) s))).1 ((L.filter fun m=>!aX T m)++[(fD T (encS (r.foldl (gN false) s))).2]) (zs++[.set (r.foldl (gN false) s)]):=by
   obtain ⟨X,eX⟩:=oQ.sub
   refine ic.app ?_ (.cons oQ.rp .nil)
   rw [eX];exact (aa HZS).mono
  have hj0:=tu oQ.ti hmk hup
  have e1:aj false ts=aj false (zs++[.set (r.foldl (gN false) s)]):=hop.rp.uniq hj0.rp
  have hjf:=fun hz=>wN oQ.ti hmk hup hz
  rw [<-e1] at hjf
  have Vm:=hide (fun w2 w3 (hb2:Below w.heap.size w w2) (hb:Below w2.heap.size w2 w3)=>FR (S:=S) (C:=C) (s:=encS (r.foldl (gN false) s)) (aZ.below (aZ.below h hb2) hb) hsz (by have:=oQ.len;omega))
  have hql:=oQ.len
  have Nb:=hide (fun (w5:World) (t4:TB) (g5 cap5:Nat) (hT5:Hid (aZ w5 t4 (fD T (encS (r.foldl (gN false) s))).1 (au (fD T (encS (r.foldl (gN false) s))).1) S C)) (hO5:w5.ownsRow w.heap.size 3 1 (.slice (some ⟨g5,0,none⟩) ((L.filter fun m=>!aX T m)++[(fD T (encS (r.foldl (gN false) s))).2]).length cap5) ((L.filter fun m=>!aX T m)++[(fD T (encS (r.foldl (gN false) s))).2]).length (ints (az ((L.filter fun m=>!aX T m)++[(fD T (encS (r.foldl (gN false) s))).2]))))=>
   wO (k:=false) (cap:=cap5) hT5 oQ.ti.wf hup.lt (by rw [List.length_append];simp;omega) (fun hz=>by have:=hjf hz;omega) (eH hO5 (Nat.zero_le _)) (wQ (aa hT5) hO5))
  clear hj0 e1 hop oQ hmk hup hjf hql hf2 hs3 hs0 hfs hsz
  rw [show ((a_ false:Nat):Int)=0 from rfl,show ((dH false:Nat):Int)=2 from rfl,show kk false=4 from rfl] at Nb
  have Nc:Hid (Op B T (iG (fD T (encS (r.foldl (gN false) s))).1 false ((L.filter fun m=>!aX T m)++[(fD T (encS (r.foldl (gN false) s))).2])) (aj false ts) ((memT false (aj false ts)).length+1)):=l9
  have Nf:Hid (∀ r0,l=[r0]->(iG (fD T (encS (r.foldl (gN false) s))).1 false ((L.filter fun m=>!aX T m)++[(fD T (encS (r.foldl (gN false) s))).2]))=(T,r0)):=YS
  clear YS
  clear l9
  generalize encS (r.foldl (gN false) s)=es at *
  generalize fD T es=Q at *
  generalize iG Q.1 false ((L.filter fun m=>!aX T m)++[Q.2])=R at *
  generalize hNS:L.filter (fun m=>!aX T m)=NS at *
  have hlen1:(NS++[Q.2]).length=NS.length+1:=by simp
  rw [hlen1] at Nb
  rw [show (s::r).length=r.length+1 from rfl] at HM Ng
  go_enter Tryz.func79,Tryz.ntmps79
  go_wp2_with (first
   | (go_at_call 110;refine (aa HM).mono ?_;clear HM;rintro e w2 ⟨SG,ao2,oG,cap2,rfl,zt,jl,HB2⟩;have hws:w.heap.size<=w2.heap.size:=(aa HB2).size;have HV1:Hid (∀ k,(Value.slice SG NS.length oG).ownBlock=some k->¬ TF t k):=(fun k hk=>aZ.dX h ((aa zt).lt k hk).1);obtain ⟨ao2',cap2',e1,hv2⟩:=aQ (aa jl);injection e1 with e2 e3 e4;subst e2;subst e4;obtain ⟨g2,rfl,-⟩:=hv2 (by omega);have HFO:=hide (aa Ng w2 g2 cap2 (aa jl));clear Ng hv2)
   | (go_at_call 111;refine (aa HFO).mono ?_;clear HFO;rintro e w3 ⟨rfl,HB3⟩;have HST:=hide (aa Vm w2 _ (aa HB2) (aa HB3));clear Vm)
   | (go_at_call 82;refine (aa HST).mono ?_;clear HST;rintro e w4 ⟨rfl,t4,yU,Vn⟩;have GU:Hid (bg t t4 w w4):=((bg.below (aa HB2)).trans (bg.below (aa HB3))).trans (aa Vn);have xR:=hide (GN (own_below (aa zt) (aa HB3) (Nat.le_refl _)) (aa Vn) (aa HV1));have hw4:w.heap.size<=w4.heap.size:=(aa GU).size;have abg:Hid (Below w.heap.size w4 w4):=Below.refl _ _;have HO4':Hid (w4.ownsRow w.heap.size 3 1 (.slice SG NS.length oG) NS.length (ints (az NS))):=xR)
   | (at_builtin;refine jK Tryz.underlying31 gU rfl (by decide) (by decide) w.heap.size w4 w4 _ _ [.int .i64 (Q.2:Int)] _ (.tmp 16) (.tmp 21) rfl rfl rfl w4.heap.size rfl rfl HO4' abg hw4 hNl rfl (by intro u hu;simp at hu;rw [hu];rfl) ?_;intro g5 cap5 w5 iC kV FO;have qN:Hid (aZ w5 t4 Q.1 (au Q.1) S C):=GQ (aa yU) (aa GU) (aa Tj) (aa kV) (aa FO);have HO5':Hid (w5.ownsRow w.heap.size 3 1 (.slice (some ⟨g5,0,none⟩) (NS.length+1) cap5) (NS.length+1) (ints (az (NS++[Q.2])))):=(by show World.ownsRow _ _ _ _ _ _ _;rw [ig,show ints (az NS++az [Q.2])=ints (az NS)++[.int .i64 (Q.2:Int)] from by simp [ints,az]];exact iC);have HJ:=hide (aa Nb w5 t4 g5 cap5 qN (aa HO5'));rw [(aa GU).tb] at HJ;have LM:=hide (wP (aa GU) (aa kV));have abh:=((aa iC).lt g5 rfl).1)
   | (go_at_call 113;refine (aa HJ).mono ?_;clear HJ;rintro e w6 ⟨rfl,t6,Xe,HX6⟩))
  go_ret
  exact ⟨R,aa Nc,aa Nf,rfl,t6,Xe,(aa LM).past (aa HX6) abh⟩
end
end Go.Proofs.YtfolanohokflkaaGreatDoor
namespace Go.Proofs.YtfolanohokflkaaGreatDoor
open Go.RowKit
open Tm (eps)
section
variable {w W W':World} {t:TB} {T:List Te} {N S C C' C2:List (Value×Value)} {n0:Nat} {g:Option Nat}
structure KC (w W:World) (t:TB) (T:List Te) (S C C':List (Value×Value)) (n0:Nat) (g:Option Nat):Prop where
 tab:aZ W t T (au T) S C'
 cv:iI W t T C'
 fr:bg t t w W
 ap:∀ b,g=some b->w.heap.size<=b/\b<W.heap.size/\Av (fun k=>k=b) C'
 keys:∀ p∈C',p∈C\/∃ i:Nat,i<n0/\p.1=.int .i64 (i:Int)
 av:∀ P:Nat->Prop,(∀ k,P k->k<w.heap.size)->Av P C->Av P C'
theorem KC.zero (h:Hid (aZ w t T (au T) S C)) (hc:Hid (iI w t T C)):KC w w t T S C C n0 none:=
 ⟨aa h,aa hc,bg.refl _ _,(fun _ e=>nomatch e),fun _ hp=>.inl hp,fun _ _ ha=>ha⟩
theorem KC.grown (h0:Hid (aZ w t T (au T) S C)) (h:KC w W t T S C C' n0 g) (hg:W.grownBy W' g):KC w W' t T S C C' n0 g where
 tab:=h.tab.move fun k hk hl=>hg.block k hl (fun e=>aZ.dX h0 (h.ap k e.symm).1 hk)
 cv:=by
  refine ⟨h.cv.1,fun p hp=>?_⟩
  obtain ⟨n,gg,cap,l,y,e,h1,h2,h2',h3⟩:=h.cv.2 p hp
  exact ⟨n,gg,cap,l,y,e,h1,h2,h2',h3.move (hg.block gg h3.lt (fun e'=>(h.ap gg e'.symm).2.2 p hp gg _ _ (by rw [e]) rfl))⟩
 fr:=by
  have f:=h.fr
  exact ⟨hg.os.trans f.os,hg.tape.trans f.tape,hg.output.trans f.output,Nat.le_trans f.size hg.size,fun k hk hn=>(hg.block k (Nat.lt_of_lt_of_le hk f.size) (fun e=>by have:=(h.ap k e.symm).1;omega)).trans (f.block k hk hn),f.tb,f.nb,f.sb,f.cb,f.row⟩
 ap:=fun b e=>⟨(h.ap b e).1,Nat.lt_of_lt_of_le (h.ap b e).2.1 hg.size,(h.ap b e).2.2⟩
 keys:=h.keys
 av:=h.av
theorem KC.at {g4:Nat} (h0:Hid (aZ w t T (au T) S C)) (h:KC w W t T S C C' n0 g) (hg:W.grownBy W' g) (hat:g=some g4\/g4=W.heap.size) (hlt:g4<W'.heap.size):KC w W' t T S C C' n0 (some g4):=by
 have h1:=h.grown h0 hg
 refine ⟨h1.tab,h1.cv,h1.fr,fun b e=>?_,h1.keys,h1.av⟩
 injection e with e
 subst e
 rcases hat with e | e
 ·exact h1.ap g4 e
 ·refine ⟨by rw [e];exact h.fr.size,hlt,fun p hp gg m c e2 e3=>?_⟩
  obtain ⟨n,g',cap,l,y,e4,h5,h2,h2',h3⟩:=h.cv.2 p hp
  rw [e4] at e2
  injection e2 with e2
  injection e2 with e2
  injection e2 with e2
  have:=h3.lt
  omega
theorem KC.call {n gg:Nat} (h:KC w W t T S C C' n0 g) (h1:aZ W' t T (au T) S C2) (h2:iI W' t T C2) (h3:bg t t W W') (hn:n<n0) (h4:∀ p∈C2,p∈C'\/∃ i:Nat,i<=n/\p.1=.int .i64 (i:Int)) (h5:∀ P:Nat->Prop,(∀ k,P k->k<W.heap.size)->Av P C'->Av P C2/\¬ P gg):KC w W' t T S C C2 n0 g where
 tab:=h1
 cv:=h2
 fr:=h.fr.trans h3
 ap:=fun b e=>⟨(h.ap b e).1,Nat.lt_of_lt_of_le (h.ap b e).2.1 h3.size,(h5 _ (fun k hk=>by rw [hk];exact (h.ap b e).2.1) (h.ap b e).2.2).1⟩
 keys:=fun p hp=>by
  rcases h4 p hp with q | ⟨i,hi,q⟩
  ·exact h.keys p q
  ·exact .inr ⟨i,by omega,q⟩
 av:=fun P hP hA=>(h5 P (fun k hk=>Nat.lt_of_lt_of_le (hP k hk) h.fr.size) (h.av P hP hA)).1
theorem KC.row {base e size m:Nat} {v:Value} {xs:List Value} (h0:Hid (aZ w t T (au T) S C)) (h:KC w W t T S C C' n0 v.ownBlock) (h3:bg t t W W') (ho:W.ownsRow base e size v m xs):W'.ownsRow base e size v m xs:=
 GN ho h3 fun k hk=>aZ.dX h0 (h.ap k hk).1
theorem abj:(Tryz.prog.info? 21).map (fun i=>(i.zero,i.size,i.bytes))=some (some (.int .i32 0),1,4):=by kernel_rfl
def GV (t:TB) (T:List Te) (S:List (Value×Value)) (n0:Nat) (n:Nat):Prop:=n<n0/\∃ y,Rp T n y/\jX y/\(∀ l,yc y l->l.length<=481)/\∀ (W:World) (C:List (Value×Value)),Hid (aZ W t T (au T) S C)->Hid (iI W t T C)->Calls Tryz.prog 125 #[.pointer (some ⟨t.tb,0,none⟩),.int .i64 n] W (mE y W t T S C (fun i=>i<=n))
set_option maxRecDepth 100000 in
set_option maxHeartbeats 4000000 in
theorem r_ {ns:List Nat} {z:Tm} {g0 cap0:Nat} (h:Hid (aZ w t T (au T) S C)) (hc:Hid (iI w t T C)) (hne:ns≠[]) (hl:ns.length<=1000000) (hns:∀ n∈ns,GV t T S n0 n) (hz:∀ c,rU z c↔∃ n∈ns,∃ y,Rp T n y/\rU y c)
  (hcl:∀ j n,ns[j]? = some n->w.cell? ⟨g0,j,none⟩=some (.int .i64 ((n:Nat):Int))) (hg0:g0<w.heap.size) (hg0':¬ TF t g0) (hcap:ns.length<=cap0) :
  Calls Tryz.prog 174 #[.pointer (some ⟨t.tb,0,none⟩),.slice (some ⟨g0,0,none⟩) ns.length cap0] w (mE z w t T S C (fun i=>i<n0)):=by
 obtain ⟨i0,hi0,hz0,hz1,hz2⟩:=info_parts abj
 have zu:=hide hcl
 have HNS:=hide hns
 have HZ:=hide hz
 clear hcl hns hz
 go_enter Tryz.func174,Tryz.ntmps174
 go_wp2_with fail
 go_loopw [5,10] (fun v i wr=>∃ (k':Nat) (ao:Option Addr) (cap m:Nat) (acc:List Int) (C':List (Value×Value)),k'<=ns.length/\i=.int .i64 (k':Int)/\v=.slice ao m cap/\Hid (m=acc.length)/\Hid (wr.ownsRow w.heap.size 21 1 (.slice ao m cap) m (runeCells acc))/\Hid (KC w wr t T S C C' n0 (Value.slice ao m cap).ownBlock)/\m<=k'*481/\Hid (∀ c,c∈acc↔∃ n∈ns.take k',∃ y,Rp T n y/\rU y c)) (fun _ i _=>ns.length - (intOf i).toNat)
 case atStart=>exact ⟨0,none,0,0,[],C,Nat.zero_le _,rfl,rfl,rfl,World.ownsRow_nil _ _ _ _,KC.zero h hc,Nat.zero_le _,fun c=>by simp⟩
 case round=>
  obtain ⟨k',ao,cap,m,acc,C',hk',rfl,rfl,HM,HO,HK,hm,HA⟩:=hrel
  by_cases hlt:k'<ns.length
  ·have cx:wr.cell? ⟨g0,k',none⟩=some (.int .i64 ((ns[k']:Nat):Int)):=by
    rw [World.cell?_of_block (a:=⟨g0,k',none⟩) ((aa HK).fr.block g0 hg0 hg0')]
    exact aa zu k' _ (by simp [hlt])
   obtain ⟨hnn,y,hy,hok,hyl,hyc⟩:=aa HNS ns[k'] (List.getElem_mem _)
   have gP:=hide (hyc wr C' (hide (aa HK).tab) (hide (aa HK).cv))
   have HY:=hide (And.intro hy (And.intro hok hyl))
   have Xm:=hide (List.take_succ_eq_append_getElem hlt)
   generalize ns[k']=n at *
   have SL:(k':Int)<(ns.length:Int):=by omega
   have hws:w.heap.size<=wr.heap.size:=(aa HK).fr.size
   clear hy hok hyl hyc
   go_wp2_with (first
    | (go_at_call 125;refine (aa gP).mono ?_;clear gP;rintro e w2 ⟨dn,g2,cap2,C2,rfl,qJ,HR2,HT2,xh,uA,hk2,ha2⟩;have HK2:Hid (KC w w2 t T S C C2 n0 (Value.slice ao m cap).ownBlock):=(aa HK).call (aa HT2) (aa xh) (aa uA) hnn hk2 ha2;have jl:=hide (KC.row h (aa HK) (aa uA) (aa HO));have hl2:=(aa HY).2.2 dn qJ;have hl0:0<dn.length:=(List.length_pos_of_mem ((qJ.mem 0).2 (nQ (aa HY).2.1)));have hs2:w.heap.size<=w2.heap.size:=(aa HK2).fr.size;have HL2:=hide qJ;clear qJ hk2 ha2 HT2 xh uA)
    | (at_builtin;refine wpList_append_lies w2 rfl (.tmp 14) (.tmp 17) 107 rfl w.heap.size 21 i0 _ 1 4 Tryz.underlying107 hi0 hz0 hz1 hz2 rfl (by omega) _ m (runeCells acc) rfl (aa jl) ⟨g2,0,none⟩ dn.length cap2 (runeCells dn) rfl (by simp [runeCells]) ((aa HR2).own.cells rfl) (by intro u hu;obtain ⟨z,_,rfl⟩:=List.mem_map.1 hu;rfl) hl0 (by unfold maxLen;omega) (by omega) hs2 _ rfl ?_;intro g3 f_ w3 ho3 hg3 acM hlt3;have p8:=hide ho3;have YB:=hide (KC.at h (aa HK2) hg3 acM hlt3);clear ho3 hg3 acM))
   go_roundw
   case rel=>
    refine ⟨k'+1,some ⟨g3,0,none⟩,f_,m+dn.length,acc++dn,C2,by omega,by go_num,rfl,by show _=_;rw [List.length_append,<-aa HM],?_,YB,by omega,fun c=>?_⟩
    ·show World.ownsRow _ _ _ _ _ _ _
     rw [show runeCells (acc++dn)=runeCells acc++runeCells dn from by simp [runeCells]]
     exact p8
    ·rw [List.mem_append,aa HA c,aa Xm,(aa HL2).mem c]
     constructor
     ·rintro (⟨n1,hn1,q⟩ | q)
      ·exact ⟨n1,List.mem_append_left _ hn1,q⟩
      ·exact ⟨n,by simp,y,(aa HY).1,q⟩
     ·rintro ⟨n1,hn1,y1,hy1,q⟩
      rcases List.mem_append.1 hn1 with q1 | q1
      ·exact .inl ⟨n1,q1,y1,hy1,q⟩
      ·rw [List.mem_singleton] at q1
       subst q1
       rw [hy1.uniq (aa HY).1] at q
       exact .inr q
   case measure=>simp [intOf];omega
  ·obtain rfl:k'=ns.length:=by omega
   rw [List.take_length] at HA
   have hacc:0<m:=by
    obtain ⟨a,r,rfl⟩:∃ a r,ns=a::r:=by cases ns with
     | nil=>exact absurd rfl hne
     | cons a r=>exact ⟨a,r,rfl⟩
    obtain ⟨-,y,hy,hok,-⟩:=aa HNS a (List.mem_cons_self ..)
    rw [aa HM]
    exact List.length_pos_of_mem ((aa HA 0).2 ⟨a,List.mem_cons_self ..,y,hy,nQ hok⟩)
   obtain ⟨ao',cap',e',hv⟩:=aQ (aa HO)
   injection e' with e1 e2 e3
   subst e1
   subst e3
   obtain ⟨gL,rfl,hgb,Ry,-,-⟩:=hv hacc
   have hcs:=mP _ (J3 acc)
   have fF:=hide (Jv wr gL m cap acc (aa HM).symm hacc (by omega) (hide (eH (aa HO) (Nat.zero_le _))))
   have Ls:=hide (fun w2 (ho:w2.ownsRow 0 21 1 (.slice (some ⟨gL,0,none⟩) m cap) m (runeCells (jm acc)))=>GL w2 gL m cap (jm acc) ((yf _).trans (aa HM).symm) (by omega) ho (Nat.le_trans hcs.2.2 (by rw [yf,<-aa HM];exact Nat.le_refl _)))
   have RQ:Hid (yc z (Lib.compact (jm acc))):=⟨hcs.1,fun c=>by rw [hcs.2.1 c,E9,aa HA c,aa HZ c]⟩
   clear hcs hv
   go_wp2_with (first
    | (go_at_call 239;refine (aa fF).mono ?_;clear fF;rintro e w3 ⟨rfl,HX3⟩;have xh:=hide (aa Ls w3 (aa HX3).1);clear Ls)
    | (go_at_call 240;refine (aa xh).mono ?_;clear xh;rintro e w4 ⟨rfl,ho4,hg4⟩;have xR:=hide ho4;have Yc:=hide hg4;clear ho4 hg4))
   go_ret
   have hk4:=((aa HK).grown h (aa HX3).2).grown h (aa Yc)
   exact ⟨_,gL,cap,C',rfl,aa RQ,⟨aa xR,aZ.dX h hgb⟩,hk4.tab,hk4.cv,hk4.fr,hk4.keys,fun P hP hA=>⟨hk4.av P hP hA,fun q=>by have:=hP gL q;omega⟩⟩
end
end Go.Proofs.YtfolanohokflkaaGreatDoor
namespace Go.Proofs.YtfolanohokflkaaGreatDoor
open Go.RowKit
open Tm (eps)
section
variable {w W W':World} {t:TB} {T:List Te} {N S C C' C2:List (Value×Value)} {n0:Nat} {B:List Int}
theorem mE.lift {y z:Tm} {ok ok':Nat->Prop} {e:Ending} (h:mE y W t T S C ok e W') (hf:bg t t w W) (hok:∀ i,ok i->ok' i) (hz:∀ c,rU y c↔rU z c):mE z w t T S C ok' e W':=by
 obtain ⟨dn,g,cap,C',h1,h2,h3,h4,h5,h6,h7,h8⟩:=h
 refine ⟨dn,g,cap,C',h1,⟨h2.rise,fun c=>(h2.mem c).trans (hz c)⟩,h3,h4,h5,hf.trans (aa h6),fun p hp=>?_,fun P hP hA=>h8 P (fun k hk=>Nat.lt_of_lt_of_le (hP k hk) hf.size) hA⟩
 rcases h7 p hp with q | ⟨i,q1,q2⟩
 ·exact .inl q
 ·exact .inr ⟨i,hok i q1,q2⟩
theorem bg.drewN {t:TB} {w w':World} (h:bg t t w w') (q:Nat):bg t t w (w'.drewN q):=⟨h.os,h.tape,h.output,h.size,h.block,h.tb,h.nb,h.sb,h.cb,h.row⟩
theorem z8 {i:Nat} {y:Tm} (ha:GV t T S n0 i) (hy:Rp T i y):i<n0/\∀ (W:World) (C:List (Value×Value)),Hid (aZ W t T (au T) S C)->Hid (iI W t T C)->Calls Tryz.prog 125 #[.pointer (some ⟨t.tb,0,none⟩),.int .i64 i] W (mE y W t T S C (fun j=>j<=i)):=by
 obtain ⟨h1,y',h2,-,-,h3⟩:=ha
 rw [hy.uniq h2]
 exact ⟨h1,h3⟩
set_option maxRecDepth 100000 in
set_option maxHeartbeats 4000000 in
theorem YT {i:Nat} {y:Tm} (h:Hid (aZ w t T (au T) S C)) (hc:Hid (iI w t T C)) (ha:GV t T S n0 i) (hy:Rp T i y) :
  Calls Tryz.prog 177 #[.pointer (some ⟨t.tb,0,none⟩),iD (dS i)] w (mE (.star y) w t T S C (fun j=>j<n0)):=by
 unfold iD dS
 dsimp only
 obtain ⟨hin,Xl⟩:=z8 ha hy
 have tK:Hid (bg t t w (w.alloc (.cells #[.int .i64 3,.string ⟨#[]⟩,.int .i64 (i:Int),.int .i64 0] 135))):=bg.below ((Below.refl _ _).alloc (Nat.le_refl _) _)
 have DT:=hide (Xl (w.alloc (.cells #[.int .i64 3,.string ⟨#[]⟩,.int .i64 (i:Int),.int .i64 0] 135)) C (aZ.alloc h _) (iI.move hc (fun k hk _=>Below.heap_alloc w _ k hk)))
 clear h hc ha Xl
 go_enter Tryz.func177,Tryz.ntmps177
 go_wp2_with (go_at_call 125;refine (aa DT).mono ?_;clear DT;rintro x w2 HH;have gP:=hide HH;obtain ⟨l2,g2,cap2,C2,rfl,-⟩:=HH)
 go_ret
 exact (aa gP).lift (aa tK) (fun j hj=>by omega) (fun c=>Iff.rfl)
set_option maxRecDepth 100000 in
set_option maxHeartbeats 4000000 in
theorem abk {i:Nat} {y:Tm} (h:Hid (aZ w t T (au T) S C)) (hc:Hid (iI w t T C)) (ha:GV t T S n0 i) (hy:Rp T i y) :
  Calls Tryz.prog 188 #[.pointer (some ⟨t.tb,0,none⟩),iD (dU i)] w (mE (.not y) w t T S C (fun j=>j<n0)):=by
 unfold iD dU
 dsimp only
 obtain ⟨hin,Xl⟩:=z8 ha hy
 have tK:Hid (bg t t w (w.alloc (.cells #[.int .i64 6,.string ⟨#[]⟩,.int .i64 (i:Int),.int .i64 0] 135))):=bg.below ((Below.refl _ _).alloc (Nat.le_refl _) _)
 have DT:=hide (Xl (w.alloc (.cells #[.int .i64 6,.string ⟨#[]⟩,.int .i64 (i:Int),.int .i64 0] 135)) C (aZ.alloc h _) (iI.move hc (fun k hk _=>Below.heap_alloc w _ k hk)))
 clear h hc ha Xl
 go_enter Tryz.func188,Tryz.ntmps188
 go_wp2_with (go_at_call 125;refine (aa DT).mono ?_;clear DT;rintro x w2 HH;have gP:=hide HH;obtain ⟨l2,g2,cap2,C2,rfl,-⟩:=HH)
 go_ret
 exact (aa gP).lift (aa tK) (fun j hj=>by omega) (fun c=>Iff.rfl)
set_option maxRecDepth 100000 in
set_option maxHeartbeats 4000000 in
theorem Vo {i j:Nat} {x y:Tm} {ki:Ky} {b:Bool} (h:Hid (aZ w t T (au T) S C)) (hc:Hid (iI w t T C)) (ha:GV t T S n0 i) (hx:Rp T i x) (hb:T[i]? = some (ki,b)) (hbn:b=cB x) (hy:Rp T j y) (ha2:b=true->GV t T S n0 j) :
  Calls Tryz.prog 173 #[.pointer (some ⟨t.tb,0,none⟩),iD (bL i j)] w (mE (.chain x y) w t T S C (fun j=>j<n0)):=by
 unfold iD bL
 dsimp only
 have HA:=aZ.alloc h (.cells #[.int .i64 2,.string ⟨#[]⟩,.int .i64 (i:Int),.int .i64 (j:Int)] 135)
 have tK:Hid (bg t t w (w.alloc (.cells #[.int .i64 2,.string ⟨#[]⟩,.int .i64 (i:Int),.int .i64 (j:Int)] 135))):=bg.below ((Below.refl _ _).alloc (Nat.le_refl _) _)
 have pU:=iI.move (w':=w.alloc (.cells #[.int .i64 2,.string ⟨#[]⟩,.int .i64 (i:Int),.int .i64 (j:Int)] 135)) hc (fun k hk _=>Below.heap_alloc w _ k hk)
 obtain ⟨g,q2,-,-,-,-,a4⟩:=(aa HA).at hb
 have hlt:i<T.length:=(List.getElem?_eq_some_iff.1 hb).1
 have hI:(i:Int)<(T.length:Int):=by omega
 have hI0:(0:Int)<=(i:Int):=by omega
 have hsz:w.heap.size<(w.alloc (.cells #[.int .i64 2,.string ⟨#[]⟩,.int .i64 (i:Int),.int .i64 (j:Int)] 135)).heap.size:=by simp
 dsimp only at a4
 cases b with
 | false=>
  obtain ⟨hin,Xl⟩:=z8 ha hx
  have DT:=hide (fun q=>Xl ((w.alloc (.cells #[.int .i64 2,.string ⟨#[]⟩,.int .i64 (i:Int),.int .i64 (j:Int)] 135)).drewN q) C (hide ((aa HA).drew q)) (iI.move pU (fun _ _ _=>rfl)))
  have HIC:Hid (∀ c,rU x c↔rU (.chain x y) c):=fun c=>by simp [rU,<-hbn]
  clear h hc hb ha ha2 hbn HA pU Xl
  go_enter Tryz.func173,Tryz.ntmps173
  go_wp2_with fail
  go_quiet (fail)
  go_wp2_with (go_at_call 125;refine (aa DT _).mono ?_;clear DT;rintro x w2 HH;have gP:=hide HH;obtain ⟨l2,g2,cap2,C2,rfl,-⟩:=HH)
  go_ret
  exact (aa gP).lift (bg.drewN (aa tK) _) (fun j hj=>by omega) (aa HIC)
 | true=>
  have ha2:=ha2 rfl
  have HIC:Hid (∀ c,rU (.chain x y) c↔∃ n∈[i,j],∃ z,Rp T n z/\rU z c):=fun c=>by
   constructor
   ·rintro (q | ⟨-,q⟩)
    ·exact ⟨i,by simp,x,hx,q⟩
    ·exact ⟨j,by simp,y,hy,q⟩
   ·rintro ⟨n,hn,z,hz,q⟩
    rcases List.mem_cons.1 hn with e | e
    ·subst e;rw [hz.uniq hx] at q;exact .inl q
    ·rw [List.mem_singleton] at e;subst e;rw [hz.uniq hy] at q;exact .inr ⟨hbn.symm,q⟩
  have RS:Hid (∀ q,((w.alloc (.cells #[.int .i64 2,.string ⟨#[]⟩,.int .i64 (i:Int),.int .i64 (j:Int)] 135)).drewN q).heap.size=w.heap.size+1):=fun q=>World.size_alloc ..
  have DT:=hide (fun q=>r_ (n0:=n0) (ns:=[i,j]) (z:=.chain x y) (g0:=w.heap.size+1) (cap0:=2) (w:=((w.alloc (.cells #[.int .i64 2,.string ⟨#[]⟩,.int .i64 (i:Int),.int .i64 (j:Int)] 135)).drewN q).alloc (.cells #[.int .i64 (i:Int),.int .i64 (j:Int)] 3))
   (aZ.alloc (hide ((aa HA).drew q)) _) (iI.move (iI.move (w':=(w.alloc (.cells #[.int .i64 2,.string ⟨#[]⟩,.int .i64 (i:Int),.int .i64 (j:Int)] 135)).drewN q) pU (fun _ _ _=>rfl)) (fun k hk _=>Below.heap_alloc _ _ k hk)) (by simp) (by simp) (fun n hn=>by
    rcases List.mem_cons.1 hn with e | e
    ·rw [e];exact ha
    ·rw [List.mem_singleton] at e;rw [e];exact ha2) (aa HIC)
   (fun k n hk=>by
    have hb:=heap_alloc_new ((w.alloc (.cells #[.int .i64 2,.string ⟨#[]⟩,.int .i64 (i:Int),.int .i64 (j:Int)] 135)).drewN q) (.cells #[.int .i64 (i:Int),.int .i64 (j:Int)] 3)
    rw [aa RS q] at hb
    rw [cell_of_row _ _ k _ _ _ hb]
    match k,hk with
    | 0,hk=>cases hk;rfl
    | 1,hk=>cases hk;rfl) (by rw [World.size_alloc,aa RS q];exact Nat.lt_succ_self _) (aZ.dX (hide ((aa HA).drew q)) (by rw [aa RS q];exact Nat.le_refl _)) (Nat.le_refl _))
  rw [show [i,j].length=2 from rfl] at DT
  have uA:Hid (∀ q,bg t t w (((w.alloc (.cells #[.int .i64 2,.string ⟨#[]⟩,.int .i64 (i:Int),.int .i64 (j:Int)] 135)).drewN q).alloc (.cells #[.int .i64 (i:Int),.int .i64 (j:Int)] 3))):=fun q=>(bg.drewN (aa tK) q).trans (bg.below ((Below.refl _ _).alloc (Nat.le_refl _) _))
  clear h hc hb ha ha2 hbn HA pU HIC tK
  go_enter Tryz.func173,Tryz.ntmps173
  go_wp2_with fail
  go_quiet (fail)
  go_wp2_with (go_at_call 174;refine (aa DT _).mono ?_;clear DT;rintro x w2 HH;have gP:=hide HH;obtain ⟨l2,g2,cap2,C2,rfl,-⟩:=HH)
  go_ret
  exact (aa gP).lift (aa uA _) (fun j hj=>hj) (fun c=>Iff.rfl)
def kF3 (k:Bool):Nat:=if k=true then 185 else 182
set_option maxRecDepth 100000 in
set_option maxHeartbeats 4000000 in
theorem abl {k:Bool} {i j:Nat} {l:List Nat} {z:Tm} (h:Hid (aZ w t T (au T) S C)) (hc:Hid (iI w t T C)) (hw:uz T) (hsp:ko T k j l) (hl:l.length+1<=1000000) (ha:∀ n∈i::l,GV t T S n0 n) (hz:∀ c,rU z c↔∃ n∈i::l,∃ y,Rp T n y/\rU y c) :
  Calls Tryz.prog (kF3 k) #[.pointer (some ⟨t.tb,0,none⟩),iD (bZ k i j)] w (mE z w t T S C (fun j=>j<n0)):=by
 have HP:=hide (Fa (i:=i) (aZ.alloc h (.cells #[.int .i64 (kk k),.string ⟨#[]⟩,.int .i64 (i:Int),.int .i64 (j:Int)] 135)) hw hsp (by omega))
 have tK:Hid (bg t t w (w.alloc (.cells #[.int .i64 (kk k),.string ⟨#[]⟩,.int .i64 (i:Int),.int .i64 (j:Int)] 135))):=bg.below ((Below.refl _ _).alloc (Nat.le_refl _) _)
 have HTA:=aZ.alloc h (.cells #[.int .i64 (kk k),.string ⟨#[]⟩,.int .i64 (i:Int),.int .i64 (j:Int)] 135)
 have pU:=iI.move (w':=w.alloc (.cells #[.int .i64 (kk k),.string ⟨#[]⟩,.int .i64 (i:Int),.int .i64 (j:Int)] 135)) hc (fun k hk _=>Below.heap_alloc w _ k hk)
 have HAL:=hide (fun (w2:World) (g cap:Nat) (hb:Below (w.alloc (.cells #[.int .i64 (kk k),.string ⟨#[]⟩,.int .i64 (i:Int),.int .i64 (j:Int)] 135)).heap.size (w.alloc (.cells #[.int .i64 (kk k),.string ⟨#[]⟩,.int .i64 (i:Int),.int .i64 (j:Int)] 135)) w2) (ho:w2.ownsRow (w.alloc (.cells #[.int .i64 (kk k),.string ⟨#[]⟩,.int .i64 (i:Int),.int .i64 (j:Int)] 135)).heap.size 3 1 (.slice (some ⟨g,0,none⟩) (l.length+1) cap) (l.length+1) (ints (az (i::l))))=>
  r_ (n0:=n0) (ns:=i::l) (z:=z) (g0:=g) (cap0:=cap) (aZ.below HTA hb) (iI.below pU hb) (by simp) (by simp;omega) ha hz (fun k n hk=>by
   have hkl:k<l.length+1:=(List.getElem?_eq_some_iff.1 hk).1
   rw [ho.cellAt k (by omega)]
   unfold ints az
   rw [List.getElem?_map,List.getElem?_map,hk];rfl) (ho.lt g rfl).2 (aZ.dX HTA (ho.lt g rfl).1) (zZ ho))
 rw [show (i::l).length=l.length+1 from rfl] at HAL
 unfold iD bZ at HP
 unfold iD bZ kF3
 dsimp only at HP ⊢
 clear h hc hw hsp ha hz HTA pU
 cases k with
 | false=>
  rw [if_neg (by simp)]
  rw [show kk false=4 from rfl] at tK HAL HP ⊢
  go_enter Tryz.func182,Tryz.ntmps182
  go_wp2_with (first
   | (go_at_call 181;refine (aa HP).mono ?_;clear HP;rintro x w2 ⟨g2,cap2,rfl,jl,HB2⟩;have DT:=hide (aa HAL w2 g2 cap2 (aa HB2) (aa jl));clear HAL)
   | (go_at_call 174;refine (aa DT).mono ?_;clear DT;rintro x w3 HH;have gP:=hide HH;obtain ⟨l3,g3,f_,C3,rfl,-⟩:=HH))
  go_ret
  exact (aa gP).lift ((aa tK).trans (bg.below (aa HB2))) (fun j hj=>hj) (fun c=>Iff.rfl)
 | true=>
  rw [if_pos rfl]
  rw [show kk true=5 from rfl] at tK HAL HP ⊢
  go_enter Tryz.func185,Tryz.ntmps185
  go_wp2_with (first
   | (go_at_call 181;refine (aa HP).mono ?_;clear HP;rintro x w2 ⟨g2,cap2,rfl,jl,HB2⟩;have DT:=hide (aa HAL w2 g2 cap2 (aa HB2) (aa jl));clear HAL)
   | (go_at_call 174;refine (aa DT).mono ?_;clear DT;rintro x w3 HH;have gP:=hide HH;obtain ⟨l3,g3,f_,C3,rfl,-⟩:=HH))
  go_ret
  exact (aa gP).lift ((aa tK).trans (bg.below (aa HB2))) (fun j hj=>hj) (fun c=>Iff.rfl)
end
end Go.Proofs.YtfolanohokflkaaGreatDoor
