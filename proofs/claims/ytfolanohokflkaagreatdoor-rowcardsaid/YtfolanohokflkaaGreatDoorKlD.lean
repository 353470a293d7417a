import Derived.Test.YtfolanohokflkaaGreatDoorRpI
import Derived.Test.YtfolanohokflkaaGreatDoorShelfH
import Derived.Test.YtfolanohokflkaaGreatDoorOnlD
import Derived.Test.YtfolanohokflkaaGreatDoorKlA
import Derived.WalkKit
import Derived.WalkSpells
import Derived.WalkLawsBesides
import Derived.WalkMore
import Derived.Test.YtfolanohokflkaaGreatDoorTabD
import Derived.Deep.AppendLies
import Derived.Deep.QuietTactic
import Derived.BigQuiet
namespace Go.Proofs.YtfolanohokflkaaGreatDoor
open Go.RowKit Go.Shelf
attribute [local go_sem] Oper.semAt_some
theorem KO (l:List Nat) (y:Nat):(ay l).filter (fun x=>!decide (x=(y:Int)))=ay (l.filter fun m=>decide (m≠y)):=by
 induction l with
 | nil=>rfl
 | cons a l ih=>
  rw [show ay (a::l)=(a:Int)::ay l from rfl,List.filter_cons,List.filter_cons,ih]
  by_cases h:a=y
  ·subst h;simp
  ·have:¬ ((a:Int)=(y:Int)):=by omega
   simp [h,this,ay]
theorem CS (w:World) (g cap:Nat) (l:List Nat) (y:Nat) (kb:Nat) (hN:l.length<=1000000000000) (h:w.ownsRow 0 3 1 (.slice (some ⟨g,0,none⟩) l.length cap) l.length (ints (ay l))) (hk:w.cell? ⟨kb,0,none⟩=some (.int .i64 (y:Int))) (hne:kb≠g) :
  Calls Tryz.prog 157 #[.slice (some ⟨g,0,none⟩) l.length cap,.func (.func 158) #[] #[.pointer (some ⟨kb,0,none⟩)]] w fun e w'=>e=.returned (.slice (some ⟨g,0,none⟩) (l.filter fun m=>decide (m≠y)).length cap)/\Hid (w'.ownsRow 0 3 1 (.slice (some ⟨g,0,none⟩) (l.filter fun m=>decide (m≠y)).length cap) (l.filter fun m=>decide (m≠y)).length (ints (ay (l.filter fun m=>decide (m≠y)))))/\Hid (w.grownBy w' (some g)):=by
 have:=Z_ w g l.length cap (ay l) (y:Int) kb (aM l) (by omega) h hk hne
 rw [KO,aM] at this
 exact this.mono fun e w' ⟨h1,h2,h3⟩=>⟨h1,h2,h3⟩
theorem qN {w:World} {g n cap:Nat} {l:List Nat} (hl:l.length=n) (h:w.ownsRow 0 3 1 (.slice (some ⟨g,0,none⟩) n cap) n (ints (ay l))):∀ j,j<(ay l).length->w.cell? ⟨g,0+j,none⟩=some (.int .i64 ((ay l).getD j 0)):=fun j hj=>by
 rw [aM] at hj
 rw [Nat.zero_add,h.cellAt j (by omega)]
 unfold ints
 rw [List.getElem?_map,List.getD_eq_getElem?_getD,List.getElem?_eq_getElem (by rw [aM];exact hj)]
 rfl
theorem CU (w:World) (g cap:Nat) (l:List Nat) (y:Nat) (hN:l.length<=1000000000000) (h:w.ownsRow 0 3 1 (.slice (some ⟨g,0,none⟩) l.length cap) l.length (ints (ay l))) :
  Calls Tryz.prog 159 #[.slice (some ⟨g,0,none⟩) l.length cap,.int .i64 (y:Int)] w fun e w'=>e=.returned (.bool (decide (y∈l)))/\w'=w:=by
 have:=Tryz.slices_Contains_int g 0 l.length cap (ay l) (y:Int) w (by rw [aM];exact Nat.le_refl _) (by omega) (qN rfl h)
 rw [List.take_of_length_le (by rw [aM];exact Nat.le_refl _)] at this
 refine this.mono fun e w' ⟨h1,h2⟩=>⟨?_,h2⟩
 rw [h1]
 congr 2
 rw [Bool.eq_iff_iff]
 simp only [List.contains_iff_mem,decide_eq_true_eq]
 exact sS
structure NK (g:Nat) (t t':TB) (w w':World):Prop where
 os:w'.os=w.os
 tape:w'.tape=w.tape
 output:w'.output=w.output
 size:w.heap.size<=w'.heap.size
 block:∀ k,k<w.heap.size->¬ TF t k->k≠g->w'.heap[k]? = w.heap[k]?
 tb:t'.tb=t.tb
 nb:t'.nb=t.nb
 sb:t'.sb=t.sb
 cb:t'.cb=t.cb
 row:∀ k,t'.row=some k->t.row=some k\/w.heap.size<=k
theorem bq.past {t t1 t':TB} {w0 w w':World} {g:Nat} (h:bq t t1 w0 w) (h':NK g t1 t' w w') (hg:w0.heap.size<=g):bq t t' w0 w':=
 ⟨h'.os.trans h.os,h'.tape.trans h.tape,h'.output.trans h.output,Nat.le_trans h.size h'.size,fun k hk hf=>(h'.block k (Nat.lt_of_lt_of_le hk h.size) (fun hf'=>(h.foot hf').elim hf (fun hl=>by omega)) (by omega)).trans (h.block k hk hf),h'.tb.trans h.tb,h'.nb.trans h.nb,h'.sb.trans h.sb,h'.cb.trans h.cb,fun k hk=>(h'.row k hk).elim (fun e=>h.row k e) (fun hl=>.inr (Nat.le_trans h.size hl))⟩
theorem NK.of {t t':TB} {w wb w1 w':World} {g:Nat} (h1:Below w.heap.size w wb) (h2:wb.grownBy w1 (some g)) (h3:bq t t' w1 w'):NK g t t' w w':=by
 have s1:=h1.size
 have s2:=h2.size
 exact ⟨h3.os.trans (h2.os.trans h1.os),h3.tape.trans (h2.tape.trans h1.tape),h3.output.trans (h2.output.trans h1.output),Nat.le_trans s1 (Nat.le_trans s2 h3.size),fun k hk hf hne=>(h3.block k (by omega) hf).trans ((h2.block k (by omega) (fun e=>hne (by injection e))).trans (h1.block k hk)),h3.tb,h3.nb,h3.sb,h3.cb,fun k hk=>(h3.row k hk).imp id fun hl=>by omega⟩
def aab (R:List Te×Nat) (g:Nat) (w:World) (t:TB) (S C:List (Value×Value)) (e:Ending) (w':World):Prop:=
 e=.returned (.int .i64 R.2)/\∃ t',Hid (bf w' t' R.1 (ak R.1) S C)/\Hid (NK g t t' w w')
def j_ (w:World) (t:TB) (kv iv:Int):World:=((w.alloc (.cells #[.pointer (some ⟨t.tb,0,none⟩)] 86)).alloc (.cells #[.int .i64 kv] 133)).alloc (.cells #[.int .i64 iv] 3)
theorem sV (w:World) (t:TB) (kv iv:Int):(j_ w t kv iv).heap.size=w.heap.size+3:=by simp [j_]
theorem qO (w:World) (t:TB) (kv iv:Int):Below w.heap.size w (j_ w t kv iv):=by
 have s1:(w.alloc (.cells #[.pointer (some ⟨t.tb,0,none⟩)] 86)).heap.size=w.heap.size+1:=by simp
 have s2:((w.alloc (.cells #[.pointer (some ⟨t.tb,0,none⟩)] 86)).alloc (.cells #[.int .i64 kv] 133)).heap.size=w.heap.size+1+1:=by simp
 exact (((Below.refl _ w).alloc (Nat.le_refl _) _).alloc (by rw [s1];omega) _).alloc (by rw [s2];omega) _
theorem Ww (w:World) (t:TB) (kv iv:Int):Boxed (j_ w t kv iv) w.heap.size 86 (.pointer (some ⟨t.tb,0,none⟩)):=((Boxed.new w 86 (.pointer (some ⟨t.tb,0,none⟩))).alloc _).alloc _
theorem Wx (w:World) (t:TB) (kv iv:Int):Boxed (j_ w t kv iv) (w.heap.size+1) 133 (.int .i64 kv):=by
 have:=(Boxed.new (w.alloc (.cells #[.pointer (some ⟨t.tb,0,none⟩)] 86)) 133 (.int .i64 kv)).alloc (.cells #[.int .i64 iv] 3)
 rwa [show (w.alloc (.cells #[.pointer (some ⟨t.tb,0,none⟩)] 86)).heap.size=w.heap.size+1 from by simp] at this
theorem CV (w:World) (t:TB) (kv iv:Int):Boxed (j_ w t kv iv) (w.heap.size+1+1) 3 (.int .i64 iv):=by
 have:=Boxed.new ((w.alloc (.cells #[.pointer (some ⟨t.tb,0,none⟩)] 86)).alloc (.cells #[.int .i64 kv] 133)) 3 (.int .i64 iv)
 rwa [show ((w.alloc (.cells #[.pointer (some ⟨t.tb,0,none⟩)] 86)).alloc (.cells #[.int .i64 kv] 133)).heap.size=w.heap.size+1+1 from by simp] at this
section
variable {w:World} {t:TB} {T:List Te} {S C:List (Value×Value)} {k:Bool} {ms:List Nat} {g cap:Nat}
theorem CW {w1:World} (h:Hid (bf w t T (ak T) S C)) {wb:World} (h1:Below w.heap.size w wb) (h2:wb.grownBy w1 (some g)) (hg:¬ TF t g):Hid (bf w1 t T (ak T) S C):=by
 have hs:=h1.size
 exact (aa h).move fun i hi hil=>(h2.block i (by omega) (fun e=>hg (by injection e with e;rw [<-e];exact hi))).trans (h1.block i hil)
set_option maxRecDepth 100000 in
set_option maxHeartbeats 4000000 in
theorem SY (h:Hid (bf w t T (ak T) S C)) (hms:ms.filter (fun m=>decide (m≠bg k))=[]) (hN:ms.length<=1000000000000) (ho:w.ownsRow 0 3 1 (.slice (some ⟨g,0,none⟩) ms.length cap) ms.length (ints (ay ms))) (hg:¬ TF t g) :
  Calls Tryz.prog 113 #[.pointer (some ⟨t.tb,0,none⟩),.int .i64 (kk k),.slice (some ⟨g,0,none⟩) ms.length cap,.int .i64 (bg k:Int),.int .i64 (dO k:Int)] w (aab (T,bg k) g w t S C):=by
 have SK:g<w.heap.size:=qM ho
 have hB3:=qO w t (kk k) (bg k:Int)
 have adT:=sV w t (kk k) (bg k:Int)
 have bi:=CV w t (kk k) (bg k:Int)
 have CX:=hide (CS (j_ w t (kk k) (bg k:Int)) g cap ms (bg k) (w.heap.size+1+1) hN (own_below ho hB3 (Nat.le_refl _)) bi.cell (by omega))
 rw [hms] at CX
 have ci:=bi.cell
 have HW3:Hid (j_ w t (kk k) (bg k:Int)=((w.alloc (.cells #[.pointer (some ⟨t.tb,0,none⟩)] 86)).alloc (.cells #[.int .i64 (kk k)] 133)).alloc (.cells #[.int .i64 (bg k:Int)] 3)):=rfl
 have HBI:=hide bi
 have HB3:=hide hB3
 clear bi hB3 ho hms
 generalize j_ w t (kk k) (bg k:Int)=W3 at *
 generalize hid:(bg k:Int)=iv at *
 generalize (dO k:Int)=rv at *
 generalize kk k=kv at *
 have hW3:=aa HW3
 clear HW3
 go_enter Tryz.func113,Tryz.ntmps113
 go_wp2_with (go_at_call 157;rw [<-hW3];refine (aa CX).mono ?_;clear CX;rintro e w1 ⟨rfl,zI,HG1⟩;have c1:w1.cell? ⟨w.heap.size+1+1,0,none⟩=some (.int .i64 iv):=((aa HBI).kept (aa HG1) (by intro e;injection e with e;omega)).cell)
 go_ret
 have hw1:=aa HG1
 refine ⟨by rw [<-hid];rfl,t,CW h (aa HB3) hw1 hg,?_⟩
 exact NK.of (aa HB3) hw1 (bq.refl _ _)
set_option maxRecDepth 100000 in
set_option maxHeartbeats 4000000 in
theorem NL (h:Hid (bf w t T (ak T) S C)) (hms:dO k∈ms.filter (fun m=>decide (m≠bg k))) (hN:ms.length<=1000000000000) (ho:w.ownsRow 0 3 1 (.slice (some ⟨g,0,none⟩) ms.length cap) ms.length (ints (ay ms))) (hg:¬ TF t g) :
  Calls Tryz.prog 113 #[.pointer (some ⟨t.tb,0,none⟩),.int .i64 (kk k),.slice (some ⟨g,0,none⟩) ms.length cap,.int .i64 (bg k:Int),.int .i64 (dO k:Int)] w (aab (T,dO k) g w t S C):=by
 have SK:g<w.heap.size:=qM ho
 have hB3:=qO w t (kk k) (bg k:Int)
 have adT:=sV w t (kk k) (bg k:Int)
 have bi:=CV w t (kk k) (bg k:Int)
 have CX:=hide (CS (j_ w t (kk k) (bg k:Int)) g cap ms (bg k) (w.heap.size+1+1) hN (own_below ho hB3 (Nat.le_refl _)) bi.cell (by omega))
 have hfl:(ms.filter fun m=>decide (m≠bg k)).length<=1000000000000:=Nat.le_trans (List.length_filter_le _ _) hN
 have hpos:0<(ms.filter fun m=>decide (m≠bg k)).length:=List.length_pos_of_mem hms
 have NM:=hide (fun w1 (h1:w1.ownsRow 0 3 1 (.slice (some ⟨g,0,none⟩) (ms.filter fun m=>decide (m≠bg k)).length cap) (ms.filter fun m=>decide (m≠bg k)).length (ints (ay (ms.filter fun m=>decide (m≠bg k)))))=>CU w1 g cap (ms.filter fun m=>decide (m≠bg k)) (dO k) hfl h1)
 rw [decide_eq_true hms] at NM
 have ci:=bi.cell
 have HW3:Hid (j_ w t (kk k) (bg k:Int)=((w.alloc (.cells #[.pointer (some ⟨t.tb,0,none⟩)] 86)).alloc (.cells #[.int .i64 (kk k)] 133)).alloc (.cells #[.int .i64 (bg k:Int)] 3)):=rfl
 have HBI:=hide bi
 have HB3:=hide hB3
 clear bi hB3 ho hms
 generalize j_ w t (kk k) (bg k:Int)=W3 at *
 generalize ms.filter (fun m=>decide (m≠bg k))=fs at *
 generalize (bg k:Int)=iv at *
 generalize hrv:(dO k:Int)=rv at *
 generalize kk k=kv at *
 have hW3:=aa HW3
 clear HW3
 have hne:¬ ((fs.length:Int)=0):=by omega
 go_enter Tryz.func113,Tryz.ntmps113
 go_wp2_with (first
  | (go_at_call 157;rw [<-hW3];refine (aa CX).mono ?_;clear CX;rintro e w1 ⟨rfl,zI,HG1⟩)
  | (go_at_call 159;refine (aa NM _ (aa zI)).mono ?_;clear NM;rintro e w2 ⟨rfl,rfl⟩))
 go_ret
 have hw1:=aa HG1
 refine ⟨by rw [<-hrv];rfl,t,CW h (aa HB3) hw1 hg,?_⟩
 exact NK.of (aa HB3) hw1 (bq.refl _ _)
end
end Go.Proofs.YtfolanohokflkaaGreatDoor
namespace Go.Proofs.YtfolanohokflkaaGreatDoor
open Go.RowKit Go.Shelf
attribute [local go_sem] Oper.semAt_some
def stepJ (k:Bool) (R:List Te×Nat) (x:Nat):List Te×Nat:=d_ R.1 (cB k x R.2)
def JP (k:Bool) (T:List Te) (z:Nat) (ns:List Nat) (pre:List (Fin ns.length)):List Te×Nat:=(pre.map fun x=>ns[x.val]).foldl (stepJ k) (T,z)
theorem P8 (k:Bool) (T:List Te) (z:Nat) (ns:List Nat) (pre:List (Fin ns.length)) (x:Fin ns.length):JP k T z ns (pre++[x])=stepJ k (JP k T z ns pre) ns[x.val]:=by simp [JP]
theorem CY (k:Bool) (T:List Te) (z:Nat):∀ ns:List Nat,joinL T k (ns++[z])=ns.reverse.foldl (stepJ k) (T,z)
 | []=>rfl
 | a::ns=>by
  rw [List.reverse_cons,List.foldl_append,<-CY k T z ns]
  obtain ⟨b,r,e⟩:∃ b r,ns++[z]=b::r:=by
   cases ns with
   | nil=>exact ⟨_,_,rfl⟩
   | cons b r=>exact ⟨_,_,rfl⟩
  rw [List.cons_append,e]
  rfl
theorem aco (k:Bool) (T:List Te) (z:Nat) (ns:List Nat):JP k T z ns (P5 ns.length)=joinL T k (ns++[z]):=by
 rw [CY]
 unfold JP P5
 rw [List.map_reverse]
 congr 2
 apply List.ext_getElem
 ·simp
 ·intro i h1 h2
  simp
theorem P9 {T:List Te} {k:Bool} {i j:Nat} (h:i<T.length) (h':j<T.length):AB T (cB k i j):=.inr (.inr (.inl ⟨by cases k<;>simp [cB,kk],⟨i,h,rfl⟩,j,h',rfl⟩))
theorem aac {k:Bool} {i j:Nat} (h:i<=gH) (h':j<=gH):zz (cB k i j):=⟨by cases k;exact aeu;exact aev,uK,lX h,lX h'⟩
theorem KQ {k:Bool} {T:List Te}:∀ (l:List Nat) (R:List Te×Nat),Ext T R->(∀ x∈l,x<T.length)->Ext T (l.foldl (stepJ k) R)/\(l.foldl (stepJ k) R).1.length<=R.1.length+l.length
 | [],R,h,_=>⟨h,by simp⟩
 | x::l,R,h,hx=>by
  have h1:Ext T (stepJ k R x):=h.trans (Ext.keep h.wf (P9 (Nat.lt_of_lt_of_le (hx x (List.mem_cons_self ..)) h.len) h.lt))
  have h2:(stepJ k R x).1.length<=R.1.length+1:=by
   unfold stepJ
   rcases eG R.1 (cB k x R.2) with ⟨_,_,_,e⟩ | ⟨_,e⟩<;>rw [e]<;>simp
  obtain ⟨h3,h4⟩:=KQ l (stepJ k R x) h1 fun y hy=>hx y (List.mem_cons_of_mem _ hy)
  rw [List.foldl_cons,List.length_cons]
  exact ⟨h3,by omega⟩
theorem abk {k:Bool} {T:List Te} {z:Nat} {ns:List Nat} (hw:uL T) (hz:z<T.length) (hn:∀ x∈ns,x<T.length) (pre:List (Fin ns.length)):Ext T (JP k T z ns pre)/\(JP k T z ns pre).1.length<=T.length+pre.length:=by
 have:=KQ (k:=k) (T:=T) (pre.map fun x=>ns[x.val]) (T,z) (Ext.refl hw hz) (fun x hx=>by
  obtain ⟨y,_,rfl⟩:=List.mem_map.1 hx
  exact hn _ (List.getElem_mem _))
 rwa [List.length_map] at this
theorem S9 {ns:List Nat} {z j:Nat} (hj:j<ns.length):(ay (ns++[z])).getD j 0=(ns[j]:Int):=by
 rw [iB,List.getD_eq_getElem?_getD,List.getElem?_append_left (by rw [aM];exact hj)]
 simp [ay,hj]
def JwI (w w0:World) (t:TB) (S C:List (Value×Value)) (k:Bool) (T:List Te) (z:Nat) (ns:List Nat) (Bt Bk Bn:Nat) (kp:Nat->Prop) (pre:List (Fin ns.length)) (W:World):Prop:=
 ∃ t',Hid (bf W t' (JP k T z ns pre).1 (ak (JP k T z ns pre).1) S C)/\Hid (bq t t' w W)/\(¬ TF t' Bt/\¬ TF t' Bk/\¬ TF t' Bn/\∀ i,kp i->¬ TF t' i)/\Boxed W Bn 3 (.int .i64 ((JP k T z ns pre).2:Int))/\Boxed W Bt 86 (.pointer (some ⟨t.tb,0,none⟩))/\Boxed W Bk 133 (.int .i64 (kk k))/\w0.heap.size<=W.heap.size
theorem JwI.own {w w0:World} {t:TB} {S C:List (Value×Value)} {k:Bool} {T:List Te} {z:Nat} {ns:List Nat} {Bt Bk Bn:Nat} {kp:Nat->Prop} (hn:t.nb<w0.heap.size/\t.sb<w0.heap.size/\t.cb<w0.heap.size) (hw0:w.heap.size<=w0.heap.size):OwnFrom w0.heap.size (JwI w w0 t S C k T z ns Bt Bk Bn kp):=by
 rintro s W W' row ⟨t',h1,h2,h3,h4,h5,h5',h6⟩ hg hr
 have f:=aa h2
 have hc:∀ (k:Nat) (cs:Array Value) (ty:TypeId) (z:Nat×Nat),W.heap[k]? = some (.cells cs ty z)->some k≠row:=fun k cs ty z e er=>by
  obtain ⟨_,o,ho,hcs⟩:=hr k er.symm
  rw [e] at ho
  cases ho
  cases hcs
 have hm:∀ k,TF t' k->k<W.heap.size->W'.heap[k]? = W.heap[k]? := fun k hk hl=>by
  refine hg.block k hl (fun er=>?_)
  have hge:=(hr k er.symm).1
  have g1:=aa h1
  rcases hk with rfl | rfl | rfl | rfl | e
  ·exact hc _ _ _ _ g1.tb er
  ·rw [f.nb] at hge;omega
  ·rw [f.sb] at hge;omega
  ·rw [f.cb] at hge;omega
  ·obtain ⟨_,hx | ⟨g,cap,cur,hv,hb',hg',rest⟩⟩:=g1.row
   ·have:t'.ta=none:=by injection hx.1
    simp [TB.row,this] at e
   ·injection hv with e1
    simp [TB.row,e1] at e
    subst e
    exact hc _ _ _ _ hg' er
 refine ⟨t',hide ((aa h1).move hm),hide ⟨hg.os.trans f.os,hg.tape.trans f.tape,hg.output.trans f.output,Nat.le_trans f.size hg.size,fun k hk hf=>?_,f.tb,f.nb,f.sb,f.cb,f.row⟩,h3,h4.kept hg (hc _ _ _ _ h4),h5.kept hg (hc _ _ _ _ h5),h5'.kept hg (hc _ _ _ _ h5'),Nat.le_trans h6 hg.size⟩
 exact (hg.block k (Nat.lt_of_lt_of_le hk f.size) (fun er=>by have:=(hr k er.symm).1;omega)).trans (f.block k hk hf)
section
variable {w:World} {t:TB} {T:List Te} {S C:List (Value×Value)} {k:Bool} {ms:List Nat} {g cap:Nat}
set_option maxRecDepth 100000 in
set_option maxHeartbeats 4000000 in
theorem S_ {ns:List Nat} {z:Nat} (h:Hid (bf w t T (ak T) S C)) (hw:uL T) (hms:ms.filter (fun m=>decide (m≠bg k))=ns++[z]) (hru:dO k∉ns++[z]) (hin:∀ x∈ns++[z],x<T.length) (hN:ms.length<=1000000000000) (hfl:(ns++[z]).length<=1000000) (hL:T.length+ns.length<=gH) (ho:w.ownsRow 0 3 1 (.slice (some ⟨g,0,none⟩) ms.length cap) ms.length (ints (ay ms))) (hg:¬ TF t g) :
  Calls Tryz.prog 113 #[.pointer (some ⟨t.tb,0,none⟩),.int .i64 (kk k),.slice (some ⟨g,0,none⟩) ms.length cap,.int .i64 (bg k:Int),.int .i64 (dO k:Int)] w (aab (joinL T k (ns++[z])) g w t S C):=by
 have SK:g<w.heap.size:=qM ho
 have hB3:=qO w t (kk k) (bg k:Int)
 have adT:=sV w t (kk k) (bg k:Int)
 have bi:=CV w t (kk k) (bg k:Int)
 have bt:=Ww w t (kk k) (bg k:Int)
 have bk:=Wx w t (kk k) (bg k:Int)
 have CX:=hide ((callsIn_wide (n:=7)).2 (CS (j_ w t (kk k) (bg k:Int)) g cap ms (bg k) (w.heap.size+1+1) hN (own_below ho hB3 (Nat.le_refl _)) bi.cell (by omega)))
 rw [hms] at CX
 have hfs:(ns++[z]).length=ns.length+1:=by simp
 have NM:=hide (fun w1 (h1:w1.ownsRow 0 3 1 (.slice (some ⟨g,0,none⟩) (ns++[z]).length cap) (ns++[z]).length (ints (ay (ns++[z]))))=>(callsIn_wide (n:=7)).2 (CU w1 g cap (ns++[z]) (dO k) (by omega) h1))
 rw [decide_eq_false hru] at NM
 have HW3:Hid (j_ w t (kk k) (bg k:Int)=((w.alloc (.cells #[.pointer (some ⟨t.tb,0,none⟩)] 86)).alloc (.cells #[.int .i64 (kk k)] 133)).alloc (.cells #[.int .i64 (bg k:Int)] 3)):=rfl
 have HBI:=hide bi
 have P_:=hide bt
 have aeN:=hide bk
 have HB3:=hide hB3
 have HIN:=hide hin
 clear bi bt bk hB3 ho hms hru hin
 generalize j_ w t (kk k) (bg k:Int)=W3 at *
 generalize (bg k:Int)=iv at *
 generalize (dO k:Int)=rv at *
 have hW3:=aa HW3
 clear HW3
 refine (callsIn_wide (n:=8)).1 ?_
 refine callsIn_of_wp_marks Tryz.func113 rfl trivial ?_ rfl
 simp only [Tryz.ntmps113,List.size_toArray,List.length_cons,List.length_nil,Nat.reduceAdd,Nat.reduceSub,Array.replicate_succ,Array.replicate_zero,List.push_toArray,List.append_toArray,List.nil_append,List.cons_append]
 have HBK:=hide (fun a ln cap W=>abj 7 a ln cap W)
 have hf:Fence.wide.fn 115:=trivial
 have hf2:Fence.wide.fn 157:=trivial
 have hf3:Fence.wide.fn 159:=trivial
 rw [hfs] at CX NM
 have hne:¬ ((ns.length:Int)+1=0):=by omega
 gi_wp2_with (first
  | (gi_at_call 157;rw [<-hW3];refine (aa CX).mono ?_;clear CX;rintro e w1 ⟨rfl,zI,HG1⟩;have ae5:((ns.length:Int)+1)<=(cap:Int):=(by have:=Al (aa zI);omega);have cz:w1.cell? ⟨g,ns.length,none⟩=some (.int .i64 (z:Int)):=(by have:=qN (l:=ns++[z]) hfs (aa zI) ns.length (by rw [aM,hfs];omega);rw [Nat.zero_add] at this;rw [this];simp [ay]))
  | (gi_at_call 159;refine (aa NM _ (aa zI)).mono ?_;rintro e w2 ⟨rfl,rfl⟩)
  | (gi_at_call 115;refine (aa HBK _ _ _ _).mono ?_;rintro e w2 ⟨rfl,rfl⟩))
 have Wy:=aa HG1
 have adU:Hid (Below w.heap.size w W3/\W3.grownBy w2 (some g)):=⟨aa HB3,Wy⟩
 have hs2:w.heap.size+3<=w2.heap.size:=by have:=Wy.size;omega
 have bT2:Boxed w2 w.heap.size 86 (.pointer (some ⟨t.tb,0,none⟩)):=(aa P_).kept Wy (by intro e;injection e with e;omega)
 have bK2:Boxed w2 (w.heap.size+1) 133 (.int .i64 (kk k)):=(aa aeN).kept Wy (by intro e;injection e with e;omega)
 have HT2:=CW h (aa HB3) Wy hg
 obtain ⟨Bn,hBn⟩:∃ Bn,w2.heap.size=Bn:=⟨_,rfl⟩
 have s4:(w2.alloc (.cells #[.int .i64 (z:Int)] 3)).heap.size=Bn+1:=by rw [World.size_alloc,hBn]
 have bN:=(Boxed.new w2 3 (.int .i64 (z:Int))).alloc (.cells #[.slice (some ⟨g,0,none⟩) ns.length cap] 31)
 have bS:=Boxed.new (w2.alloc (.cells #[.int .i64 (z:Int)] 3)) 31 (.slice (some ⟨g,0,none⟩) ns.length cap)
 have bT:=(bT2.alloc (.cells #[.int .i64 (z:Int)] 3)).alloc (.cells #[.slice (some ⟨g,0,none⟩) ns.length cap] 31)
 have bK:=(bK2.alloc (.cells #[.int .i64 (z:Int)] 3)).alloc (.cells #[.slice (some ⟨g,0,none⟩) ns.length cap] 31)
 rw [s4] at bS
 rw [hBn] at bN
 have jI:Hid (Below w2.heap.size w2 ((w2.alloc (.cells #[.int .i64 (z:Int)] 3)).alloc (.cells #[.slice (some ⟨g,0,none⟩) ns.length cap] 31))):=((Below.refl _ w2).alloc (Nat.le_refl _) _).alloc (by rw [s4];omega) _
 have hsz:((w2.alloc (.cells #[.int .i64 (z:Int)] 3)).alloc (.cells #[.slice (some ⟨g,0,none⟩) ns.length cap] 31)).heap.size=Bn+2:=by rw [World.size_alloc,s4]
 obtain ⟨W5,hW5⟩:∃ W5,(w2.alloc (.cells #[.int .i64 (z:Int)] 3)).alloc (.cells #[.slice (some ⟨g,0,none⟩) ns.length cap] 31)=W5:=⟨_,rfl⟩
 rw [hW5] at bN bS bT bK jI hsz ⊢
 rw [hBn]
 clear hW5 s4
 have afn:w.heap.size+3<=Bn:=by omega
 have pE:=bf.below HT2 (aa jI)
 have Mt:Hid (bq t t w2 W5):=bq.below (aa jI)
 have hnw:∀ i,w.heap.size<=i->¬ TF t i:=fun i hi=>bf.eF h hi
 have afo:w2.heap.size<=W5.heap.size:=(aa jI).size
 have hkl:∀ i,(i=g\/i=Bn+1)->i<W5.heap.size:=fun i hi=>by rw [hsz];omega
 have hNs:Wt W5 (fun i=>i=g\/i=Bn+1) (.slice (some ⟨g,0,none⟩) ns.length cap) ns:=.inr ⟨g,cap,rfl,.inl rfl,fun j hj=>by
  rw [(aa jI).cell (p:=⟨g,j,none⟩) (by show g<w2.heap.size;omega)]
  have:=qN (l:=ns++[z]) hfs (aa zI) j (by rw [aM,hfs];omega)
  rw [Nat.zero_add] at this
  rw [this]
  rw [S9 hj]⟩
 have hseq:=KJ 7 (by omega) (Bn+1) (fun i=>i=g\/i=Bn+1) (.slice (some ⟨g,0,none⟩) ns.length cap) ns (by omega) W5 (.inr rfl) hkl bS.cell hNs
 have hfn:Fence.wide.fn 84:=trivial
 have hg5:=aa pE
 have hnb:t.nb<W5.heap.size/\t.sb<W5.heap.size/\t.cb<W5.heap.size:=⟨hg5.foot (.inr (.inl rfl)),hg5.foot (.inr (.inr (.inl rfl))),hg5.foot (.inr (.inr (.inr (.inl rfl))))⟩
 refine wpIn_rangeFunc_ownH rfl (by omega) (gf:=162) (lb:=#[.pointer (some ⟨Bn+1,0,none⟩)]) rfl trivial (enters_of Tryz.func162 (by kernel_rfl) rfl)
  hseq Mf.trans (fun W l o o' hl ho hc1 hc2=>⟨by simp,fun i hi hil=>by
   have:=hkl i hi
   exact (grownBy_putObj' W l o').block i hil (fun e=>by cases e;omega)⟩) (Below.refl _ _) (fun _=>rfl)
  (JwI w2 W5 t S C k T z ns w.heap.size (w.heap.size+1) Bn (fun i=>i=g\/i=Bn+1)) (fun _ _ _=>False)
  (JwI.own hnb (aa Mt).size) (fun _ _ _ _ _ hs _ _=>hs)
  ⟨t,pE,Mt,⟨hnw _ (by omega),hnw _ (by omega),hnw _ (by omega),fun i hi=>hi.elim (fun e=>by rw [e];exact hg) (fun e=>hnw i (by omega))⟩,bN,bT,bK,Nat.le_refl _⟩
  (fun x a' _=>a'={ tmps:=#[(.pointer (some ⟨t.tb,0,none⟩)),(.int .i64 (kk k)),(.slice (some ⟨g,0,none⟩) (ns.length+1) cap),(.int .i64 iv),(.int .i64 rv),(.pointer (some ⟨w.heap.size,0,none⟩)),(.pointer (some ⟨w.heap.size+1,0,none⟩)),undef,(.pointer (some ⟨w.heap.size+1+1,0,none⟩)),undef,(.int .i64 0),(.int .i64 (ns.length:Int)),(.pointer (some ⟨Bn,0,none⟩)),undef,(.int .i64 (ns[x.val]:Int)),(.slice (some ⟨g,0,none⟩) ms.length cap),(.func (.func 158) #[] #[.pointer (some ⟨w.heap.size+1+1,0,none⟩)]),(.slice (some ⟨g,0,none⟩) (ns.length+1) cap),(.slice (some ⟨g,0,none⟩) (ns.length+1) cap),(.int .i64 ((ns.length:Int)+1)),(.bool false),undef,(.slice (some ⟨g,0,none⟩) (ns.length+1) cap),(.int .i64 rv),(.bool false),undef,(.slice (some ⟨g,0,none⟩) (ns.length+1) cap),(.int .i64 ((ns.length:Int)+1)),(.int .i64 (ns.length:Int)),(.slice (some ⟨g,0,none⟩) (ns.length+1) cap),(.int .i64 (ns.length:Int)),(.pointer (some ⟨g,ns.length,none⟩)),(.int .i64 (z:Int)),(.slice (some ⟨g,0,none⟩) (ns.length+1) cap),(.int .i64 (ns.length:Int)),(.slice (some ⟨g,0,none⟩) ns.length cap),(.func (.func 162) #[] #[.pointer (some ⟨Bn+1,0,none⟩)]),(.int .i64 (x.val:Int)),(.int .i64 (ns[x.val]:Int)),undef,undef,undef,undef,undef,undef,undef],defers:=[] })
  (fun x a' _ X Y row hs hg hr=>hs)
  ?assign ?body ?done ?stop
 case assign=>
  intro l pre x W K hI hK
  simp only [Wv]
  gi_wp2
  exact hK _ _ (KeepsFrom.refl _ _) (Mf.refl _ _) hI rfl
 case body=>
  rintro l pre x a' W hl' - ⟨t',H1,H2,⟨a1,a2,a3,a4⟩,b4,b5,b5',b6⟩ rfl hlt
  obtain ⟨hE,hEl⟩:=abk (k:=k) hw (aa HIN z (by simp)) (fun y hy=>aa HIN y (List.mem_append_left _ hy)) pre
  obtain ⟨hE2,NI⟩:=abk (k:=k) hw (aa HIN z (by simp)) (fun y hy=>aa HIN y (List.mem_append_left _ hy)) (pre++[x])
  have hxl:ns[x.val]<T.length:=aa HIN _ (List.mem_append_left _ (List.getElem_mem _))
  have hlen:=hE.len
  have hpl:(pre++[x]).length=pre.length+1:=by simp
  rw [P8,hpl] at NI
  have hlt2:=hE.lt
  have hCH:=lW (S:=S) (C:=C) H1 (aac (k:=k) (i:=ns[x.val]) (j:=(JP k T z ns pre).2) (by omega) (by omega)) (P9 (by omega) hE.lt) (Nat.le_trans NI (by omega))
  rw [(aa H2).tb] at hCH
  have HSN:=hide (P8 k T z ns pre x)
  rw [show d_ (JP k T z ns pre).1 (cB k ns[x.val] (JP k T z ns pre).2)=JP k T z ns (pre++[x]) from (aa HSN).symm] at hCH
  have NJ:=hide ((callsIn_wide (n:=5)).2 hCH)
  unfold iL cB at NJ
  dsimp only at NJ
  clear hCH HSN hE hEl hE2 NI hxl hlen hlt2
  have cT:=b5.cell
  have cK:=b5'.cell
  have cN:=b4.cell
  generalize ns[x.val]=nx at *
  generalize (JP k T z ns pre).2=r0 at *
  obtain ⟨r1,hr1⟩:∃ r1,(JP k T z ns (pre++[x])).2=r1:=⟨_,rfl⟩
  gi_wp2_with (gi_at_call 84;refine (aa NJ).mono ?_;clear NJ;rintro e w3 ⟨rfl,t2,HT2',HF2'⟩;have c4:=hide ((aa HF2').block _ b4.lt a3);have b4':Boxed w3 Bn 3 (.int .i64 (r0:Int)):=(aa c4).trans b4;have f4:=b4'.frozen;have c4':=b4'.cell)
  have g2:=aa HF2'
  have h2:=aa H2
  have gs:=grownBy_setCell' w3 Bn (.int .i64 (r1:Int))
  have hN':Bn<W.heap.size:=b4.lt
  have hft':∀ i,i<W.heap.size->¬ TF t' i->¬ TF t2 i:=fun i hi hn' hf'=>(g2.foot hf').elim hn' (fun e=>by omega)
  have hsW:=g2.size
  refine ⟨⟨Nat.le_trans hsW gs.size,fun i o hi ho hc=>?_⟩,⟨Nat.le_trans hsW gs.size,fun i hi hil=>?_⟩,⟨t2,hide ((aa HT2').move (fun i hi hil=>kz _ _ _ hil (fun e=>hft' _ hN' a3 (e▸hi)))),hide ?_,⟨hft' _ (by omega) a1,hft' _ (by omega) a2,hft' _ hN' a3,fun i hi=>hft' _ (by have:=hkl i hi;omega) (a4 i hi)⟩,?_,?_,?_,?_⟩⟩
  ·have hil:i<W.heap.size:=(Array.getElem?_eq_some_iff.1 ho).1
   rw [kz _ _ _ (by omega) (by omega),g2.block i hil (TF.cells (aa H1) h2 hnb hi ho hc)]
   exact ho
  ·have hne':i≠Bn:=by omega
   rw [kz _ _ _ (by omega) hne']
   exact g2.block i hil (a4 i hi)
  ·have hh:=h2.trans g2
   exact ⟨hh.os,hh.tape,hh.output,Nat.le_trans hh.size gs.size,fun i hi hf'=>(kz _ _ _ (by have:=hh.size;omega) (by omega)).trans (hh.block i hi hf'),hh.tb,hh.nb,hh.sb,hh.cb,hh.row⟩
  ·rw [hr1];exact b4'.set _
  ·have:Boxed w3 w.heap.size 86 (.pointer (some ⟨t.tb,0,none⟩)):=(g2.block _ b5.lt a1).trans b5
   exact this.other (by omega) _
  ·have:Boxed w3 (w.heap.size+1) 133 (.int .i64 (kk k)):=(g2.block _ b5'.lt a2).trans b5'
   exact this.other (by omega) _
  ·exact Nat.le_trans b6 (Nat.le_trans hsW gs.size)
 case done=>
  rintro D ys W hD rfl ⟨t',H1,H2,-,b4,b5,b5',b6⟩ hK
  rw [aco] at H1 b4
  have cN:=b4.cell
  obtain ⟨R,hR⟩:∃ R,joinL T k (ns++[z])=R:=⟨_,rfl⟩
  rw [hR] at H1 b4 cN ⊢
  gi_wp2
  subst hR
  refine ⟨by simp,.inl ⟨_,_,rfl,run_takeDeferred hK,?_⟩⟩
  have hDn:¬ TF t' D:=TF.cells (aa H1) (aa H2) hnb hD hK rfl
  have hg2:=grownBy_putObj' W D (.deferred none)
  refine ⟨_,results_tmp rfl _ _ _,rfl,t',hide ((aa H1).move fun i hi hil=>hg2.block i hil (fun e=>by cases e;exact hDn hi)),hide (NK.of (aa adU).1 (aa adU).2 ?_)⟩
  have h2:=aa H2
  exact ⟨hg2.os.trans h2.os,hg2.tape.trans h2.tape,hg2.output.trans h2.output,Nat.le_trans h2.size hg2.size,fun i hi hf'=>(hg2.block i (by have:=h2.size;omega) (fun e=>by cases e;omega)).trans (h2.block i hi hf'),h2.tb,h2.nb,h2.sb,h2.cb,h2.row⟩
 case stop=>
  rintro D c pre W _ _ hF _
  exact hF.elim
theorem aad {l:List Nat} (h:l≠[]):∃ ns z,l=ns++[z]:=⟨l.dropLast,l.getLast h,(List.dropLast_concat_getLast h).symm⟩
theorem xw (h:Hid (bf w t T (ak T) S C)) (hw:uL T) (hin:∀ x∈ms,x<T.length) (hN:ms.length<=1000000000000) (hL:dO k∉ms.filter (fun m=>decide (m≠bg k))->T.length+(ms.filter fun m=>decide (m≠bg k)).length<=gH/\(ms.filter fun m=>decide (m≠bg k)).length<=1000000) (ho:w.ownsRow 0 3 1 (.slice (some ⟨g,0,none⟩) ms.length cap) ms.length (ints (ay ms))) (hg:¬ TF t g) :
  Calls Tryz.prog 113 #[.pointer (some ⟨t.tb,0,none⟩),.int .i64 (kk k),.slice (some ⟨g,0,none⟩) ms.length cap,.int .i64 (bg k:Int),.int .i64 (dO k:Int)] w (aab (iO T k ms) g w t S C):=by
 unfold iO
 split
 ·rename_i e
  exact SY h e hN ho hg
 ·rename_i e
  split
  ·rename_i e2
   exact NL h e2 hN ho hg
  ·rename_i e2
   obtain ⟨ns,z,e3⟩:=aad e
   have hL':=hL e2
   rw [e3] at e2 hL' ⊢
   exact S_ h hw e3 e2 (fun x hx=>hin x (List.mem_filter.1 (by rw [e3];exact hx)).1) hN hL'.2 (by have:=hL'.1;rw [List.length_append] at this;simp at this;omega) ho hg
end
end Go.Proofs.YtfolanohokflkaaGreatDoor
namespace Go.Proofs.YtfolanohokflkaaGreatDoor
open Go.RowKit
theorem NN {a:ah} (h:Tidy a):iX a=a:=iW (iY h.pos) h fun _ hc=>pO h.pos hc
set_option maxRecDepth 100000 in
set_option maxHeartbeats 4000000 in
theorem Fy (w:World) (a b:ah) (ha:a.length<=490) (hb:b.length<=490) (Wz:Tidy a) (htb:Tidy b) :
  Calls Tryz.prog 114 #[.string (encS a),.string (encS b)] w fun e w'=>e=.returned (.string (encS (q9 a b)))/\Hid (Below w.heap.size w w'):=by
 have HP:=hide (jZ w a (by omega) (bD Wz))
 have Pd:=hide (fun w2=>jZ w2 b (by omega) (bD htb))
 have hgood:∀ p∈a++b,jN p:=fun p hp=>(List.mem_append.1 hp).elim (bD Wz p) (bD htb p)
 have Gl:iX (a++b)=q9 a b:=by
  rw [<-BU (bD Wz) (bD htb)]
  congr 1
  exact NN Wz
 have hlen:(a++b).length=a.length+b.length:=List.length_append
 have HSO:=hide (fun w3 sv (hI:vT w3.heap.size w3 sv (a++b))=>pR w3 sv (a++b) (by omega) hI hgood)
 rw [Gl] at HSO
 generalize encS a=sa at HP
 generalize encS b=sb at Pd
 generalize encS (q9 a b)=sc at HSO ⊢
 clear Wz htb hgood Gl
 go_enter Tryz.func114,Tryz.ntmps114
 go_wp2_with (first
  | (go_at_call 161;refine (aa HP).mono ?_;clear HP;rintro e w1 ⟨v1,rfl,hrow,hb1⟩;have HB1:=hide hb1;have HR1:=hide hrow;clear hrow hb1)
  | (go_at_call 161;refine (aa Pd _).mono ?_;clear Pd;rintro e w3 ⟨v3,rfl,hrow,hb3⟩;have HB3:=hide hb3;have HR3:=hide hrow;clear hrow hb3;have HR1':=hide (own_below (aa HR1) (aa HB3) (Nat.le_refl _));have hs3:w.heap.size<=w3.heap.size:=Nat.le_trans (aa HB1).size (aa HB3).size)
  | (at_builtin;refine Ku w.heap.size w1.heap.size w3 a b v1 v3 (.tmp 6) (.tmp 8) rfl rfl rfl rfl HR1' HR3 hs3 (by omega) ?_;intro ao4 n4 cap4 w4 yA ZQ)
  | (go_at_call 160;refine (aa HSO w4 _ (nJ (aa yA))).mono ?_;clear HSO;rintro e w5 ⟨rfl,hb5⟩;have jI:=hide hb5;clear hb5))
 go_ret
 refine ⟨rfl,?_⟩
 have b1:=aa HB1
 have b3:=b1.trans ((aa HB3).mono b1.size)
 have b4:=below_grown b3 (aa HR1') (aa ZQ) hs3
 exact b4.trans ((aa jI).mono b4.size)
theorem aae {a b:ah} (ha:Tidy a) (hb:Tidy b):fU (q9 (fU a) (fU b))=IL a b:=by
 have h1:=dI (a:=a) ha.pos
 have h2:=dI (a:=b) hb.pos
 have h3:=jl h1.pos h2.pos
 refine iW (dI h3.pos) (xS ha.pos hb.pos) fun c hc=>?_
 rw [kK h3.pos hc,oF h1.pos h2.pos hc,kK ha.pos hc,kK hb.pos hc,vW ha.pos hb.pos hc]
 cases dD a c<;>cases dD b c<;>rfl
set_option maxRecDepth 100000 in
set_option maxHeartbeats 4000000 in
theorem NP (w:World) (a b:ah) (ha:a.length<=490/\(fU a).length<=490) (hb:b.length<=490/\(fU b).length<=490) (hc:(q9 (fU a) (fU b)).length<=900) (Wz:Tidy a) (htb:Tidy b) :
  Calls Tryz.prog 112 #[.string (encS a),.string (encS b)] w fun e w'=>e=.returned (.string (encS (IL a b)))/\Hid (Below w.heap.size w w'):=by
 have h1:=dI (a:=a) Wz.pos
 have h2:=dI (a:=b) htb.pos
 have zI:=hide (nK w a (by omega) Wz)
 have jJ:=hide (fun w2=>nK w2 b (by omega) htb)
 have HU:=hide (fun w3=>Fy w3 (fU a) (fU b) ha.2 hb.2 h1 h2)
 have qw:=hide (fun w4=>nK w4 (q9 (fU a) (fU b)) hc (jl h1.pos h2.pos))
 rw [aae Wz htb] at qw
 clear h1 h2 Wz htb hc
 generalize encS a=sa at *
 generalize encS b=sb at *
 generalize encS (fU a)=sa2 at *
 generalize encS (fU b)=Ub at *
 generalize encS (q9 (fU a) (fU b))=sc at *
 generalize encS (IL a b)=sd at *
 go_enter Tryz.func112,Tryz.ntmps112
 go_wp2_with (first
  | (go_at_call 156;refine (aa zI).mono ?_;clear zI;rintro e w1 ⟨rfl,hb1⟩;have HB1:=hide hb1;clear hb1)
  | (go_at_call 156;refine (aa jJ _).mono ?_;clear jJ;rintro e w2 ⟨rfl,hb2⟩;have HB2:=hide hb2;clear hb2)
  | (go_at_call 114;refine (aa HU _).mono ?_;clear HU;rintro e w3 ⟨rfl,HB3⟩)
  | (go_at_call 156;refine (aa qw _).mono ?_;clear qw;rintro e w4 ⟨rfl,hb4⟩;have kL:=hide hb4;clear hb4))
 go_ret
 refine ⟨rfl,?_⟩
 have b1:=aa HB1
 have b2:=b1.trans ((aa HB2).mono b1.size)
 have b3:=b2.trans ((aa HB3).mono b2.size)
 exact b3.trans ((aa kL).mono b3.size)
end Go.Proofs.YtfolanohokflkaaGreatDoor
namespace Go.Proofs.YtfolanohokflkaaGreatDoor
open Go.RowKit
theorem WB (B:List Int) (hB:B.length<=480) (w:World) (a b:ah) (ha:Tidy a) (ha2:cu B a) (hb:Tidy b) (hb2:cu B b) :
  Calls Tryz.prog 114 #[.string (encS a),.string (encS b)] w fun e w'=>e=.returned (.string (encS (gW false a b)))/\Hid (Below w.heap.size w w'):=by
 have h1:=gz ha ha2
 have h2:=gz hb hb2
 exact Fy w a b (by omega) (by omega) ha hb
theorem aaf (B:List Int) (hB:B.length<=480) (w:World) (a b:ah) (ha:Tidy a) (ha2:cu B a) (hb:Tidy b) (hb2:cu B b) :
  Calls Tryz.prog 112 #[.string (encS a),.string (encS b)] w fun e w'=>e=.returned (.string (encS (gW true a b)))/\Hid (Below w.heap.size w w'):=by
 have h1:=gz ha ha2
 have h2:=gz hb hb2
 have t1:=dI (a:=a) ha.pos
 have t2:=dI (a:=b) hb.pos
 have h3:=gz (jl t1.pos t2.pos) (yo t1.pos t2.pos (uh ha.pos ha2) (uh hb.pos hb2))
 exact NP w a b (by omega) (by omega) (by omega) ha hb
set_option maxRecDepth 100000 in
set_option maxHeartbeats 4000000 in
theorem NQ (B:List Int) (hB:B.length<=480) (w:World) (g cap:Nat) (s:ah) (r:List ah) (hc:∀ j x,(s::r)[j]? = some x->w.cell? ⟨g,j,none⟩=some (.string (encS x))) (hcap:r.length+1<=cap) (hlt:g<w.heap.size) (hn:r.length<=1000000000000) (hs:∀ x∈s::r,Tidy x/\cu B x) :
  Calls Tryz.prog 111 #[.slice (some ⟨g,0,none⟩) (r.length+1) cap,fv 114] w fun e w'=>e=.returned (.string (encS (r.foldl (gW false) s)))/\Hid (Below w.heap.size w w'):=by
 have HW:=hide (fun w a b (ha:Tidy a/\cu B a) (hb:Tidy b/\cu B b)=>WB B hB w a b ha.1 ha.2 hb.1 hb.2)
 have hcf:∀ (args:Array Value) (w:World),(callFunc 114 args).run Tryz.prog w=.ok (.enter 114 args) w:=aK Tryz.func114 (by kernel_rfl) (by kernel_rfl)
 have c0:=hc 0 s rfl
 have HC:=hide hc
 have HS:=hide hs
 have hcI:(1:Int)<=((r.length:Int)+1):=by omega
 have aeO:((r.length:Int)+1)<=(cap:Int):=by omega
 clear hc hs
 go_enter Tryz.func111,Tryz.ntmps111
 go_wp2_with fail
 ·have hr0:r.length=0:=by omega
  go_loopw [5,14] (fun m i wr=>∃ k:Nat,k<=r.length/\i=.int .i64 (k:Int)/\Hid (m=.string (encS ((r.take k).foldl (gW false) s)))/\Hid (Below w.heap.size w wr)) (fun _ i _=>r.length - (intOf i).toNat)
  case atStart=>exact ⟨0,Nat.zero_le _,rfl,rfl,Below.refl _ _⟩
  case round=>
   obtain ⟨k,hk,rfl,HM,HB⟩:=hrel
   obtain rfl:=aa HM
   by_cases hlt2:k<r.length
   ·exact absurd hlt2 (by omega)
   ·obtain rfl:k=r.length:=by omega
    rw [List.take_length]
    go_wp2_with fail
    go_ret
    exact ⟨rfl,HB⟩
 ·go_loopw [5,14] (fun m i wr=>∃ k:Nat,k<=r.length/\i=.int .i64 (k:Int)/\Hid (m=.string (encS ((r.take k).foldl (gW false) s)))/\Hid (Below w.heap.size w wr)) (fun _ i _=>r.length - (intOf i).toNat)
  case atStart=>exact ⟨0,Nat.zero_le _,rfl,rfl,Below.refl _ _⟩
  case round=>
   obtain ⟨k,hk,rfl,HM,HB⟩:=hrel
   obtain rfl:=aa HM
   by_cases hlt2:k<r.length
   ·have hx:(s::r)[k+1]? = some r[k]:=by simp [hlt2]
    have cx:=aa HC (k+1) _ hx
    rw [<-(aa HB).cell (p:=⟨g,k+1,none⟩) hlt] at cx
    have cx2:wr.cell? ⟨g,1+k,none⟩=some (.string (encS r[k])):=by rw [Nat.add_comm];exact cx
    have HT:Hid (r.take (k+1)=r.take k++[r[k]]):=List.take_succ_eq_append_getElem hlt2
    have hx2:=aa HS r[k] (List.mem_cons_of_mem _ (List.getElem_mem _))
    have hfo:=j4 (B:=B) (k:=false) (l:=r.take k) (s:=s) (fun x hx=>aa HS x (List.mem_cons_of_mem _ (List.mem_of_mem_take hx))) (aa HS s (List.mem_cons_self ..)).1 (aa HS s (List.mem_cons_self ..)).2
    have KR:=hide (fun w'=>aa HW w' _ _ hfo hx2)
    have CZ:Hid (encS (gW false ((r.take k).foldl (gW false) s) r[k])=encS ((r.take (k+1)).foldl (gW false) s)):=by
     show _=_
     rw [aa HT,List.foldl_append];rfl
    clear hx cx hx2 hfo
    generalize encS ((r.take k).foldl (gW false) s)=e1 at *
    generalize encS (gW false ((r.take k).foldl (gW false) s) r[k])=e2 at *
    generalize encS r[k]=e3 at *
    have T_:(k:Int)<(r.length:Int):=by omega
    go_wp2_with (go_at_call 114;refine (aa KR _).mono ?_;clear KR;rintro e w2 ⟨rfl,HB2⟩)
    go_roundw
    case rel=>exact ⟨k+1,by omega,by go_num,by show _=_;rw [aa CZ],(aa HB).trans ((aa HB2).mono (aa HB).size)⟩
    case measure=>simp [intOf];omega
   ·obtain rfl:k=r.length:=by omega
    rw [List.take_length]
    go_wp2_with fail
    go_ret
    exact ⟨rfl,HB⟩
set_option maxRecDepth 100000 in
set_option maxHeartbeats 4000000 in
theorem Ta (B:List Int) (hB:B.length<=480) (w:World) (g cap:Nat) (s:ah) (r:List ah) (hc:∀ j x,(s::r)[j]? = some x->w.cell? ⟨g,j,none⟩=some (.string (encS x))) (hcap:r.length+1<=cap) (hlt:g<w.heap.size) (hn:r.length<=1000000000000) (hs:∀ x∈s::r,Tidy x/\cu B x) :
  Calls Tryz.prog 111 #[.slice (some ⟨g,0,none⟩) (r.length+1) cap,fv 112] w fun e w'=>e=.returned (.string (encS (r.foldl (gW true) s)))/\Hid (Below w.heap.size w w'):=by
 have HW:=hide (fun w a b (ha:Tidy a/\cu B a) (hb:Tidy b/\cu B b)=>aaf B hB w a b ha.1 ha.2 hb.1 hb.2)
 have hcf:∀ (args:Array Value) (w:World),(callFunc 112 args).run Tryz.prog w=.ok (.enter 112 args) w:=aK Tryz.func112 (by kernel_rfl) (by kernel_rfl)
 have c0:=hc 0 s rfl
 have HC:=hide hc
 have HS:=hide hs
 have hcI:(1:Int)<=((r.length:Int)+1):=by omega
 have aeO:((r.length:Int)+1)<=(cap:Int):=by omega
 clear hc hs
 go_enter Tryz.func111,Tryz.ntmps111
 go_wp2_with fail
 ·have hr0:r.length=0:=by omega
  go_loopw [5,14] (fun m i wr=>∃ k:Nat,k<=r.length/\i=.int .i64 (k:Int)/\Hid (m=.string (encS ((r.take k).foldl (gW true) s)))/\Hid (Below w.heap.size w wr)) (fun _ i _=>r.length - (intOf i).toNat)
  case atStart=>exact ⟨0,Nat.zero_le _,rfl,rfl,Below.refl _ _⟩
  case round=>
   obtain ⟨k,hk,rfl,HM,HB⟩:=hrel
   obtain rfl:=aa HM
   by_cases hlt2:k<r.length
   ·exact absurd hlt2 (by omega)
   ·obtain rfl:k=r.length:=by omega
    rw [List.take_length]
    go_wp2_with fail
    go_ret
    exact ⟨rfl,HB⟩
 ·go_loopw [5,14] (fun m i wr=>∃ k:Nat,k<=r.length/\i=.int .i64 (k:Int)/\Hid (m=.string (encS ((r.take k).foldl (gW true) s)))/\Hid (Below w.heap.size w wr)) (fun _ i _=>r.length - (intOf i).toNat)
  case atStart=>exact ⟨0,Nat.zero_le _,rfl,rfl,Below.refl _ _⟩
  case round=>
   obtain ⟨k,hk,rfl,HM,HB⟩:=hrel
   obtain rfl:=aa HM
   by_cases hlt2:k<r.length
   ·have hx:(s::r)[k+1]? = some r[k]:=by simp [hlt2]
    have cx:=aa HC (k+1) _ hx
    rw [<-(aa HB).cell (p:=⟨g,k+1,none⟩) hlt] at cx
    have cx2:wr.cell? ⟨g,1+k,none⟩=some (.string (encS r[k])):=by rw [Nat.add_comm];exact cx
    have HT:Hid (r.take (k+1)=r.take k++[r[k]]):=List.take_succ_eq_append_getElem hlt2
    have hx2:=aa HS r[k] (List.mem_cons_of_mem _ (List.getElem_mem _))
    have hfo:=j4 (B:=B) (k:=true) (l:=r.take k) (s:=s) (fun x hx=>aa HS x (List.mem_cons_of_mem _ (List.mem_of_mem_take hx))) (aa HS s (List.mem_cons_self ..)).1 (aa HS s (List.mem_cons_self ..)).2
    have KR:=hide (fun w'=>aa HW w' _ _ hfo hx2)
    have CZ:Hid (encS (gW true ((r.take k).foldl (gW true) s) r[k])=encS ((r.take (k+1)).foldl (gW true) s)):=by
     show _=_
     rw [aa HT,List.foldl_append];rfl
    clear hx cx hx2 hfo
    generalize encS ((r.take k).foldl (gW true) s)=e1 at *
    generalize encS (gW true ((r.take k).foldl (gW true) s) r[k])=e2 at *
    generalize encS r[k]=e3 at *
    have T_:(k:Int)<(r.length:Int):=by omega
    go_wp2_with (go_at_call 112;refine (aa KR _).mono ?_;clear KR;rintro e w2 ⟨rfl,HB2⟩)
    go_roundw
    case rel=>exact ⟨k+1,by omega,by go_num,by show _=_;rw [aa CZ],(aa HB).trans ((aa HB2).mono (aa HB).size)⟩
    case measure=>simp [intOf];omega
   ·obtain rfl:k=r.length:=by omega
    rw [List.take_length]
    go_wp2_with fail
    go_ret
    exact ⟨rfl,HB⟩
end Go.Proofs.YtfolanohokflkaaGreatDoor
namespace Go.Proofs.YtfolanohokflkaaGreatDoor
open Go.RowKit
theorem KS (c:Int):(Utf8.encode c).size<=4:=by
 unfold Utf8.encode
 simp only
 repeat' split
 all_goals simp [ByteArray.size]
theorem C8:∀ l:List Int,(runesBytes l).size<=4*l.length
 | []=>by simp [runesBytes]
 | c::l=>by
  have:=C8 l
  have:=KS c
  rw [mH,ByteArray.size_append,List.length_cons]
  omega
theorem yH (l:ah):(encS l).size<=8*l.length:=by
 have:=C8 (bI l)
 rw [fZ] at this
 unfold encS
 omega
theorem G9 {w w':World} {t t':TB} {base e size n:Nat} {v:Value} {xs:List Value} (h:w.ownsRow base e size v n xs) (hf:bq t t' w w') (ha:∀ k,v.ownBlock=some k->¬ TF t k):w'.ownsRow base e size v n xs:=by
 obtain ⟨hl,hx | ⟨g,cap,cur,rfl,hb,hgr,rest⟩⟩:=h
 ·exact ⟨hl,.inl hx⟩
 ·exact ⟨hl,.inr ⟨g,cap,cur,rfl,hb,(hf.block g (Array.getElem?_eq_some_iff.1 hgr).1 (ha g rfl)).trans hgr,rest⟩⟩
theorem G_ {w w4 w5:World} {t t4:TB} {T:List Te} {N S C:List (Value×Value)} (h:bf w4 t4 T N S C) (hf:bq t t4 w w4) (hlt:∀ k,TF t k->k<w.heap.size) (hb:Below w.heap.size w4 w5) (hk:∀ B' e' s' u m ys,e'≠3->w4.ownsRow B' e' s' u m ys->w5.ownsRow B' e' s' u m ys):bf w5 t4 T N S C:=by
 have b1:=hlt t.tb (.inl rfl)
 have b2:=hlt t.nb (.inr (.inl rfl))
 have b3:=hlt t.sb (.inr (.inr (.inl rfl)))
 have b4:=hlt t.cb (.inr (.inr (.inr (.inl rfl))))
 exact ⟨(hb.block _ (by rw [hf.tb];exact b1)).trans h.tb,(hb.block _ (by rw [hf.nb];exact b2)).trans h.nb,(hb.block _ (by rw [hf.sb];exact b3)).trans h.sb,(hb.block _ (by rw [hf.cb];exact b4)).trans h.cb,hk _ _ _ _ _ _ (by decide) h.row,h.ne,h.nr,h.ok,h.nd⟩
theorem xx {w w4 w5:World} {t t4:TB} (hf:bq t t4 w w4) (hb:Below w.heap.size w4 w5):bq t t4 w w5:=
 ⟨hb.os.trans hf.os,hb.tape.trans hf.tape,hb.output.trans hf.output,Nat.le_trans hf.size hb.size,fun k hk hn=>(hb.block k hk).trans (hf.block k hk hn),hf.tb,hf.nb,hf.sb,hf.cb,hf.row⟩
theorem xy {w:World} {t:TB} {T:List Te} {N S C:List (Value×Value)} (h:bf w t T N S C) {base g n cap:Nat} {xs:List Value} (ho:w.ownsRow base 3 1 (.slice (some ⟨g,0,none⟩) n cap) n xs):¬ TF t g:=by
 obtain ⟨_,⟨hv,_⟩ | ⟨g',cap',cur,hv,_,hgr,_⟩⟩:=ho
 ·cases hv
 ·injection hv with e1
  injection e1 with e1
  injection e1 with e1
  subst e1
  rintro (rfl | rfl | rfl | rfl | e)
  ·have:=h.tb;rw [hgr] at this;injection this with q;injection q with _ q;exact absurd q (by decide)
  ·have:=h.nb;rw [hgr] at this;cases this
  ·have:=h.sb;rw [hgr] at this;cases this
  ·have:=h.cb;rw [hgr] at this;cases this
  ·obtain ⟨_,hx | ⟨g2,cap2,afp,hv2,_,hg2,_⟩⟩:=h.row
   ·have:t.ta=none:=by injection hx.1
    simp [TB.row,this] at e
   ·injection hv2 with e2
    simp [TB.row,e2] at e
    subst e
    rw [hgr] at hg2
    injection hg2 with q
    injection q with _ q
    exact absurd q (by decide)
section
variable {B:List Int} {w:World} {t:TB} {T:List Te} {S C:List (Value×Value)}
set_option maxRecDepth 100000 in
set_option maxHeartbeats 8000000 in
theorem WC {l:List Nat} {ts:List Tm} {g0 cap0:Nat} (h:Hid (bf w t T (ak T) S C)) (hT:TI B T) (hB:B.length<=480) (hr:iA T l ts) (hne:l≠[]) (hln:l.length<=500000) (ng:∀ t∈ts,(memT false t).length<=200000) (Tc:(memT false (aj false ts)).length<=200000) (hlim:T.length+(memT false (aj false ts)).length+2<=gH)
  (hc:∀ j x,(ay l)[j]? = some x->w.cell? ⟨g0,j,none⟩=some (.int .i64 x)) (hg0:g0<w.heap.size) :
  Calls Tryz.prog 79 #[.pointer (some ⟨t.tb,0,none⟩),.slice (some ⟨g0,0,none⟩) l.length cap0] w fun e w'=>∃ R,Op B T R (aj false ts) ((memT false (aj false ts)).length+1)/\(∀ r,l=[r]->R=(T,r))/\FX R w t S C e w':=by
 have hJ:=hT.toTJ
 have qX:∀ n∈l,∃ t,Rp T n t/\t∈ts:=fun n hn=>by
  obtain ⟨t,ht,_⟩:=hT.all n (hr.lt n hn)
  exact ⟨t,ht,hr.mem.2 ⟨n,hn,ht⟩⟩
 have hsp:∀ n∈l,kF T false n (gV T false n)/\(gV T false n).length<=200000:=fun n hn=>by
  obtain ⟨t,ht,htm⟩:=qX n hn
  have h1:=Aj (k:=false) ht
  exact ⟨h1,Nat.le_trans (Ak hT ht h1) (ng t htm)⟩
 have qW:(l.flatMap (gV T false)).length<=100000000000:=by
  have h1:=CP (b:=200000) fun n hn=>(hsp n hn).2
  have h2:l.length*200000<=500000*200000:=Nat.mul_le_mul_right _ hln
  omega
 have hSL:=yF (k:=false) (T:=T) (l:=l) fun n hn=>(hsp n hn).1
 have NR:=hSL.kinds hJ
 obtain ⟨L,ND,hLp,PX⟩:=Fv (l.flatMap (gV T false))
 have HM:=hide (zg (cap0:=cap0) h hT.wf (fun n hn=>⟨(hsp n hn).1,by have:=(hsp n hn).2;omega⟩) hne (by omega) hc hg0 qW (fun m hm=>by
  obtain ⟨x,hx,_⟩:=NR m hm
  exact (List.getElem?_eq_some_iff.1 hx).1) ND)
 have Yq:=hide qW
 have acp:Hid (∃ m,m∈l.flatMap (gV T false)):=by
  obtain ⟨a,r,rfl⟩:∃ a r,l=a::r:=by cases l with
   | nil=>exact absurd rfl hne
   | cons a r=>exact ⟨a,r,rfl⟩
  have:=(hsp a (List.mem_cons_self ..)).1.ne
  obtain ⟨x,y,e⟩:∃ x y,gV T false a=x::y:=by
   cases hq:gV T false a with
   | nil=>exact absurd hq this
   | cons x y=>exact ⟨x,y,rfl⟩
  exact ⟨x,by rw [List.flatMap_cons,e];simp⟩
 have HSL:=hide hSL
 have HKN:=hide NR
 have HR:=hide hr
 have adV:1<=(memT false (aj false ts)).length:=by
  cases hq:memT false (aj false ts) with
  | nil=>exact absurd hq (wo _ _)
  | cons _ _=>simp
 clear hc hg0 hne hln ng qX hsp qW hSL NR hr
 have abg:L.length<=(l.flatMap (gV T false)).length:=jr (hLp.imp fun q e=>by omega) fun m hm=>(PX m).1 hm
 obtain ⟨ss,hs1,hs2,hs3⟩:=G8 hT (L:=L.filter fun m=>aY T m) fun m hm=>(List.mem_filter.1 hm).2
 have mD:=hide (VD hT (aa HR) (aa HSL) hLp PX hs1 fun s hs=>(hs3 s hs).1)
 have Td:Hid (∀ r,l=[r]->Zx T false L (f_ false ss)=(T,r)):=fun r e=>by
  subst e
  cases aa HR with
  | cons h1 _=>exact KI hT (Aj (k:=false) h1) hLp (fun m=>by rw [PX m];simp) hs1
 have hsl:(L.filter fun m=>aY T m).length=ss.length:=by
  have:=congrArg List.length hs2
  simpa using this
 rw [hs2,hsl] at HM
 have hkind:∀ m∈L,∃ x,T[m]? = some x/\x.1.kd≠kk false:=fun m hm=>aa HKN m ((PX m).1 hm)
 have hns:∀ m∈L.filter (fun m=>!aY T m),¬ Ng T m:=fun m hm q=>by
  have:=(List.mem_filter.1 hm).2
  rw [mi.2 q] at this;cases this
 have hbf:(L.filter fun m=>!aY T m).Pairwise (Bf T):=(hLp.filter _).imp_of_mem fun {a b} ha hb q=>⟨hns a ha,.inr q⟩
 have hM:MOk T false (L.filter fun m=>!aY T m):=⟨fun m hm=>hkind m (List.mem_filter.1 hm).1,hbf⟩
 have hfl:=aa Yq
 have hex:∀ m∈L,∃ t,Rp T m t:=fun m hm=>by
  obtain ⟨x,hx,_⟩:=hkind m hm
  obtain ⟨y,hy,_⟩:=hJ.all m (List.getElem?_eq_some_iff.1 hx).1
  exact ⟨y,hy⟩
 obtain ⟨zs,hzs⟩:=iA.of (T:=T) (l:=L.filter fun m=>!aY T m) fun m hm=>hex m (List.mem_filter.1 hm).1
 have Un:=hide (fun i (hi:TF t i)=>(aa h).foot hi)
 have hin:∀ m∈L.filter (fun m=>!aY T m),m<T.length:=hzs.lt
 have hNl:(L.filter fun m=>!aY T m).length<=100000000000:=Nat.le_trans (List.length_filter_le _ _) (by omega)
 have Ik:=hide hM
 have HNS:=hide hns
 have HZS:=hide hzs
 have HIN:=hide hin
 have hGm:=hlim
 obtain ⟨m0,hm0⟩:=aa acp
 have WE:=(PX m0).2 hm0
 clear hM hns hzs hbf hkind hex hs1 hs2 HKN Yq HSL
 cases ss with
 | nil=>
  have WG:0<(L.filter fun m=>!aY T m).length:=by
   have:m0∈L.filter fun m=>!aY T m:=List.mem_filter.2 ⟨WE,by
    cases hb:aY T m0 with
    | false=>rfl
    | true=>
     have hq:m0∈L.filter fun m=>aY T m:=List.mem_filter.2 ⟨WE,hb⟩
     rw [List.eq_nil_of_length_eq_zero hsl] at hq
     cases hq⟩
   exact List.length_pos_of_mem this
  have hop:=aa mD
  have hj0:=ui hT (aa Ik) (aa HZS)
  have e1:aj false ts=aj false zs:=hop.rp.uniq hj0.rp
  have NT:=hide (fun (w2:World) (g1 oU:Nat) (hb2:Below w.heap.size w w2) (ho1:w2.ownsRow w.heap.size 3 1 (.slice (some ⟨g1,0,none⟩) (L.filter fun m=>!aY T m).length oU) (L.filter fun m=>!aY T m).length (ints (ay (L.filter fun m=>!aY T m)))) (Ha:w.heap.size<=g1)=>xw (k:=false) (cap:=oU) (bf.below h hb2) hT.wf (aa HIN) (by omega) (fun hz=>by
   have:=xu hT (aa Ik) (aa HZS) hz
   rw [<-e1] at this
   omega) (fB ho1 (Nat.zero_le _)) (bf.eF h Ha))
  clear hj0 e1 hop
  rw [show ((bg false:Nat):Int)=0 from rfl,show ((dO false:Nat):Int)=2 from rfl,show kk false=4 from rfl] at NT
  simp only [List.length_nil] at HM
  have NU:Hid (Op B T (iO T false (L.filter fun m=>!aY T m)) (aj false ts) ((memT false (aj false ts)).length+1)):=mD
  have NV:Hid (∀ r0,l=[r0]->(iO T false (L.filter fun m=>!aY T m))=(T,r0)):=Td
  clear Td
  clear mD
  generalize iO T false (L.filter fun m=>!aY T m)=R at *
  generalize L.filter (fun m=>!aY T m)=NS at *
  go_enter Tryz.func79,Tryz.ntmps79
  go_wp2_with (first
   | (go_at_call 110;refine (aa HM).mono ?_;clear HM;rintro e w2 ⟨TY,ao2,oU,cap2,rfl,zI,jJ,HB2⟩;obtain ⟨ao1',cap1',e1,hv1⟩:=aO (aa zI);injection e1 with e2 e3 e4;subst e2;subst e4;obtain ⟨g1,rfl,Ha,-⟩:=hv1 WG;have HJ:=hide (aa NT w2 g1 oU (aa HB2) (aa zI) Ha);clear NT)
   | (go_at_call 113;refine (aa HJ).mono ?_;clear HJ;rintro e w3 ⟨rfl,t3,HT3,HX3⟩))
  go_ret
  exact ⟨R,aa NU,aa NV,rfl,t3,HT3,(bq.below (aa HB2)).past (aa HX3) Ha⟩
 | cons s r=>
  have hrl:r.length+1<=100000000000:=by
   have h1:(s::r).length=r.length+1:=rfl
   have h2:(L.filter fun m=>aY T m).length<=L.length:=List.length_filter_le _ _
   omega
  have hs0:=hs3 s (List.mem_cons_self ..)
  have hf2:=j4 (B:=B) (k:=false) (l:=r) (s:=s) (fun x hx=>hs3 x (List.mem_cons_of_mem _ hx)) hs0.1 hs0.2
  have NW:=hide (fun (w2:World) (g2 cap2:Nat) (ho2:w2.ownsRow w.heap.size 61 1 (.slice (some ⟨g2,0,none⟩) (s::r).length cap2) (s::r).length (strs ((s::r).map encS)))=>NQ B hB w2 g2 cap2 s r (fun j x hj=>by
   have hjl:j<r.length+1:=(List.getElem?_eq_some_iff.1 hj).1
   rw [ho2.cellAt j (by simp;omega)]
   unfold strs
   rw [List.getElem?_map,List.getElem?_map,hj];rfl) (Al ho2) (ho2.lt g2 rfl).2 (by omega) hs3)
  have hfs:(r.foldl (gW false) s).length<=481:=by have:=(gz hf2.1 hf2.2).1;omega
  have hsz:(encS (r.foldl (gW false) s)).size<=maxLen:=by
   have:=yH (r.foldl (gW false) s)
   unfold maxLen
   omega
  have hop:=aa mD
  have oQ:=Op.set hT hf2.1 hf2.2
  have hmk:=PZ hT (aa Ik) (aa HNS) hf2.1 hf2.2
  have hup:iA (fO T (encS (r.foldl (gW false) s))).1 ((L.filter fun m=>!aY T m)++[(fO T (encS (r.foldl (gW false) s))).2]) (zs++[.set (r.foldl (gW false) s)]):=by
   obtain ⟨X,eX⟩:=oQ.sub
   refine iA.app ?_ (.cons oQ.rp .nil)
   rw [eX];exact (aa HZS).mono
  have hj0:=ui oQ.ti hmk hup
  have e1:aj false ts=aj false (zs++[.set (r.foldl (gW false) s)]):=hop.rp.uniq hj0.rp
  have hjf:=fun hz=>xu oQ.ti hmk hup hz
  rw [<-e1] at hjf
  have WH:=hide (fun w2 w3 (hb2:Below w.heap.size w w2) (hb:Below w2.heap.size w2 w3)=>FY (S:=S) (C:=C) (s:=encS (r.foldl (gW false) s)) (bf.below (bf.below h hb2) hb) hsz (by have:=oQ.len;omega))
  have hql:=oQ.len
  have NT:=hide (fun (w5:World) (t4:TB) (g5 cap5:Nat) (hT5:Hid (bf w5 t4 (fO T (encS (r.foldl (gW false) s))).1 (ak (fO T (encS (r.foldl (gW false) s))).1) S C)) (hO5:w5.ownsRow w.heap.size 3 1 (.slice (some ⟨g5,0,none⟩) ((L.filter fun m=>!aY T m)++[(fO T (encS (r.foldl (gW false) s))).2]).length cap5) ((L.filter fun m=>!aY T m)++[(fO T (encS (r.foldl (gW false) s))).2]).length (ints (ay ((L.filter fun m=>!aY T m)++[(fO T (encS (r.foldl (gW false) s))).2]))))=>
   xw (k:=false) (cap:=cap5) hT5 oQ.ti.wf hup.lt (by rw [List.length_append];simp;omega) (fun hz=>by have:=hjf hz;omega) (fB hO5 (Nat.zero_le _)) (xy (aa hT5) hO5))
  clear hj0 e1 hop oQ hmk hup hjf hql hf2 hs3 hs0 hfs hsz
  rw [show ((bg false:Nat):Int)=0 from rfl,show ((dO false:Nat):Int)=2 from rfl,show kk false=4 from rfl] at NT
  have NU:Hid (Op B T (iO (fO T (encS (r.foldl (gW false) s))).1 false ((L.filter fun m=>!aY T m)++[(fO T (encS (r.foldl (gW false) s))).2])) (aj false ts) ((memT false (aj false ts)).length+1)):=mD
  have NV:Hid (∀ r0,l=[r0]->(iO (fO T (encS (r.foldl (gW false) s))).1 false ((L.filter fun m=>!aY T m)++[(fO T (encS (r.foldl (gW false) s))).2]))=(T,r0)):=Td
  clear Td
  clear mD
  generalize encS (r.foldl (gW false) s)=es at *
  generalize fO T es=Q at *
  generalize iO Q.1 false ((L.filter fun m=>!aY T m)++[Q.2])=R at *
  generalize hNS:L.filter (fun m=>!aY T m)=NS at *
  have hlen1:(NS++[Q.2]).length=NS.length+1:=by simp
  rw [hlen1] at NT
  rw [show (s::r).length=r.length+1 from rfl] at HM NW
  go_enter Tryz.func79,Tryz.ntmps79
  go_wp2_with (first
   | (go_at_call 110;refine (aa HM).mono ?_;clear HM;rintro e w2 ⟨TY,ao2,oU,cap2,rfl,zI,jJ,HB2⟩;have hws:w.heap.size<=w2.heap.size:=(aa HB2).size;have HV1:Hid (∀ k,(Value.slice TY NS.length oU).ownBlock=some k->¬ TF t k):=(fun k hk=>bf.eF h ((aa zI).lt k hk).1);obtain ⟨ao2',cap2',e1,hv2⟩:=aO (aa jJ);injection e1 with e2 e3 e4;subst e2;subst e4;obtain ⟨g2,rfl,-⟩:=hv2 (by omega);have HFO:=hide (aa NW w2 g2 cap2 (aa jJ));clear NW hv2)
   | (go_at_call 111;refine (aa HFO).mono ?_;clear HFO;rintro e w3 ⟨rfl,HB3⟩;have HST:=hide (aa WH w2 _ (aa HB2) (aa HB3));clear WH)
   | (go_at_call 82;refine (aa HST).mono ?_;clear HST;rintro e w4 ⟨rfl,t4,zi,WI⟩;have Hd:Hid (bq t t4 w w4):=((bq.below (aa HB2)).trans (bq.below (aa HB3))).trans (aa WI);have yA:=hide (G9 (own_below (aa zI) (aa HB3) (Nat.le_refl _)) (aa WI) (aa HV1));have hw4:w.heap.size<=w4.heap.size:=(aa Hd).size;have acr:Hid (Below w.heap.size w4 w4):=Below.refl _ _;have HO4':Hid (w4.ownsRow w.heap.size 3 1 (.slice TY NS.length oU) NS.length (ints (ay NS))):=yA)
   | (at_builtin;refine jV Tryz.underlying31 gZ rfl (by decide) (by decide) w.heap.size w4 w4 _ _ [.int .i64 (Q.2:Int)] _ (.tmp 16) (.tmp 21) rfl rfl rfl w4.heap.size rfl rfl HO4' acr hw4 hNl rfl (by intro u hu;simp at hu;rw [hu];rfl) ?_;intro g5 cap5 w5 o_ jI FU;have pE:Hid (bf w5 t4 Q.1 (ak Q.1) S C):=G_ (aa zi) (aa Hd) (aa Un) (aa jI) (aa FU);have HO5':Hid (w5.ownsRow w.heap.size 3 1 (.slice (some ⟨g5,0,none⟩) (NS.length+1) cap5) (NS.length+1) (ints (ay (NS++[Q.2])))):=(by show World.ownsRow _ _ _ _ _ _ _;rw [iB,show ints (ay NS++ay [Q.2])=ints (ay NS)++[.int .i64 (Q.2:Int)] from by simp [ints,ay]];exact o_);have HJ:=hide (aa NT w5 t4 g5 cap5 pE (aa HO5'));rw [(aa Hd).tb] at HJ;have Mt:=hide (xx (aa Hd) (aa jI));have acs:=((aa o_).lt g5 rfl).1)
   | (go_at_call 113;refine (aa HJ).mono ?_;clear HJ;rintro e w6 ⟨rfl,t6,Ye,HX6⟩))
  go_ret
  exact ⟨R,aa NU,aa NV,rfl,t6,Ye,(aa Mt).past (aa HX6) acs⟩
end
end Go.Proofs.YtfolanohokflkaaGreatDoor
namespace Go.Proofs.YtfolanohokflkaaGreatDoor
open Go.RowKit
open Tm (eps)
section
variable {w W W':World} {t:TB} {T:List Te} {N S C C' C2:List (Value×Value)} {n0:Nat} {g:Option Nat}
structure KC (w W:World) (t:TB) (T:List Te) (S C C':List (Value×Value)) (n0:Nat) (g:Option Nat):Prop where
 tab:bf W t T (ak T) S C'
 cv:iQ W t T C'
 fr:bq t t w W
 ap:∀ b,g=some b->w.heap.size<=b/\b<W.heap.size/\Av (fun k=>k=b) C'
 keys:∀ p∈C',p∈C\/∃ i:Nat,i<n0/\p.1=.int .i64 (i:Int)
 av:∀ P:Nat->Prop,(∀ k,P k->k<w.heap.size)->Av P C->Av P C'
theorem KC.zero (h:Hid (bf w t T (ak T) S C)) (hc:Hid (iQ w t T C)):KC w w t T S C C n0 none:=
 ⟨aa h,aa hc,bq.refl _ _,(fun _ e=>nomatch e),fun _ hp=>.inl hp,fun _ _ ha=>ha⟩
theorem KC.grown (h0:Hid (bf w t T (ak T) S C)) (h:KC w W t T S C C' n0 g) (hg:W.grownBy W' g):KC w W' t T S C C' n0 g where
 tab:=h.tab.move fun k hk hl=>hg.block k hl (fun e=>bf.eF h0 (h.ap k e.symm).1 hk)
 cv:=by
  refine ⟨h.cv.1,fun p hp=>?_⟩
  obtain ⟨n,gg,cap,l,y,e,h1,h2,h2',h3⟩:=h.cv.2 p hp
  exact ⟨n,gg,cap,l,y,e,h1,h2,h2',h3.move (hg.block gg h3.lt (fun e'=>(h.ap gg e'.symm).2.2 p hp gg _ _ (by rw [e]) rfl))⟩
 fr:=by
  have f:=h.fr
  exact ⟨hg.os.trans f.os,hg.tape.trans f.tape,hg.output.trans f.output,Nat.le_trans f.size hg.size,fun k hk hn=>(hg.block k (Nat.lt_of_lt_of_le hk f.size) (fun e=>by have:=(h.ap k e.symm).1;omega)).trans (f.block k hk hn),f.tb,f.nb,f.sb,f.cb,f.row⟩
 ap:=fun b e=>⟨(h.ap b e).1,Nat.lt_of_lt_of_le (h.ap b e).2.1 hg.size,(h.ap b e).2.2⟩
 keys:=h.keys
 av:=h.av
theorem KC.at {g4:Nat} (h0:Hid (bf w t T (ak T) S C)) (h:KC w W t T S C C' n0 g) (hg:W.grownBy W' g) (hat:g=some g4\/g4=W.heap.size) (hlt:g4<W'.heap.size):KC w W' t T S C C' n0 (some g4):=by
 have h1:=h.grown h0 hg
 refine ⟨h1.tab,h1.cv,h1.fr,fun b e=>?_,h1.keys,h1.av⟩
 injection e with e
 subst e
 rcases hat with e | e
 ·exact h1.ap g4 e
 ·refine ⟨by rw [e];exact h.fr.size,hlt,fun p hp gg m c e2 e3=>?_⟩
  obtain ⟨n,g',cap,l,y,e4,h5,h2,h2',h3⟩:=h.cv.2 p hp
  rw [e4] at e2
  injection e2 with e2
  injection e2 with e2
  injection e2 with e2
  have:=h3.lt
  omega
theorem KC.call {n gg:Nat} (h:KC w W t T S C C' n0 g) (h1:bf W' t T (ak T) S C2) (h2:iQ W' t T C2) (h3:bq t t W W') (hn:n<n0) (h4:∀ p∈C2,p∈C'\/∃ i:Nat,i<=n/\p.1=.int .i64 (i:Int)) (h5:∀ P:Nat->Prop,(∀ k,P k->k<W.heap.size)->Av P C'->Av P C2/\¬ P gg):KC w W' t T S C C2 n0 g where
 tab:=h1
 cv:=h2
 fr:=h.fr.trans h3
 ap:=fun b e=>⟨(h.ap b e).1,Nat.lt_of_lt_of_le (h.ap b e).2.1 h3.size,(h5 _ (fun k hk=>by rw [hk];exact (h.ap b e).2.1) (h.ap b e).2.2).1⟩
 keys:=fun p hp=>by
  rcases h4 p hp with q | ⟨i,hi,q⟩
  ·exact h.keys p q
  ·exact .inr ⟨i,by omega,q⟩
 av:=fun P hP hA=>(h5 P (fun k hk=>Nat.lt_of_lt_of_le (hP k hk) h.fr.size) (h.av P hP hA)).1
theorem KC.row {base e size m:Nat} {v:Value} {xs:List Value} (h0:Hid (bf w t T (ak T) S C)) (h:KC w W t T S C C' n0 v.ownBlock) (h3:bq t t W W') (ho:W.ownsRow base e size v m xs):W'.ownsRow base e size v m xs:=
 G9 ho h3 fun k hk=>bf.eF h0 (h.ap k hk).1
theorem acu:(Tryz.prog.info? 21).map (fun i=>(i.zero,i.size,i.bytes))=some (some (.int .i32 0),1,4):=by kernel_rfl
def He (t:TB) (T:List Te) (S:List (Value×Value)) (n0:Nat) (n:Nat):Prop:=n<n0/\∃ y,Rp T n y/\gp y/\(∀ l,yx y l->l.length<=481)/\∀ (W:World) (C:List (Value×Value)),Hid (bf W t T (ak T) S C)->Hid (iQ W t T C)->Calls Tryz.prog 125 #[.pointer (some ⟨t.tb,0,none⟩),.int .i64 n] W (mP y W t T S C (fun i=>i<=n))
set_option maxRecDepth 100000 in
set_option maxHeartbeats 4000000 in
theorem sW {ns:List Nat} {z:Tm} {g0 cap0:Nat} (h:Hid (bf w t T (ak T) S C)) (hc:Hid (iQ w t T C)) (hne:ns≠[]) (hl:ns.length<=1000000) (hns:∀ n∈ns,He t T S n0 n) (hz:∀ c,sI z c↔∃ n∈ns,∃ y,Rp T n y/\sI y c)
  (hcl:∀ j n,ns[j]? = some n->w.cell? ⟨g0,j,none⟩=some (.int .i64 ((n:Nat):Int))) (hg0:g0<w.heap.size) (hg0':¬ TF t g0) (hcap:ns.length<=cap0) :
  Calls Tryz.prog 174 #[.pointer (some ⟨t.tb,0,none⟩),.slice (some ⟨g0,0,none⟩) ns.length cap0] w (mP z w t T S C (fun i=>i<n0)):=by
 obtain ⟨i0,hi0,hz0,hz1,hz2⟩:=info_parts acu
 have zJ:=hide hcl
 have HNS:=hide hns
 have HZ:=hide hz
 clear hcl hns hz
 go_enter Tryz.func174,Tryz.ntmps174
 go_wp2_with fail
 go_loopw [5,10] (fun v i wr=>∃ (k':Nat) (ao:Option Addr) (cap m:Nat) (acc:List Int) (C':List (Value×Value)),k'<=ns.length/\i=.int .i64 (k':Int)/\v=.slice ao m cap/\Hid (m=acc.length)/\Hid (wr.ownsRow w.heap.size 21 1 (.slice ao m cap) m (runeCells acc))/\Hid (KC w wr t T S C C' n0 (Value.slice ao m cap).ownBlock)/\m<=k'*481/\Hid (∀ c,c∈acc↔∃ n∈ns.take k',∃ y,Rp T n y/\sI y c)) (fun _ i _=>ns.length - (intOf i).toNat)
 case atStart=>exact ⟨0,none,0,0,[],C,Nat.zero_le _,rfl,rfl,rfl,World.ownsRow_nil _ _ _ _,KC.zero h hc,Nat.zero_le _,fun c=>by simp⟩
 case round=>
  obtain ⟨k',ao,cap,m,acc,C',hk',rfl,rfl,HM,HO,HK,hm,HA⟩:=hrel
  by_cases hlt:k'<ns.length
  ·have cx:wr.cell? ⟨g0,k',none⟩=some (.int .i64 ((ns[k']:Nat):Int)):=by
    rw [World.cell?_of_block (a:=⟨g0,k',none⟩) ((aa HK).fr.block g0 hg0 hg0')]
    exact aa zJ k' _ (by simp [hlt])
   obtain ⟨hnn,y,hy,hok,hyl,hyc⟩:=aa HNS ns[k'] (List.getElem_mem _)
   have g_:=hide (hyc wr C' (hide (aa HK).tab) (hide (aa HK).cv))
   have HY:=hide (And.intro hy (And.intro hok hyl))
   have Yo:=hide (List.take_succ_eq_append_getElem hlt)
   generalize ns[k']=n at *
   have T_:(k':Int)<(ns.length:Int):=by omega
   have hws:w.heap.size<=wr.heap.size:=(aa HK).fr.size
   clear hy hok hyl hyc
   go_wp2_with (first
    | (go_at_call 125;refine (aa g_).mono ?_;clear g_;rintro e w2 ⟨dE,g2,cap2,C2,rfl,ru,HR2,HT2,xK,uM,hk2,ha2⟩;have HK2:Hid (KC w w2 t T S C C2 n0 (Value.slice ao m cap).ownBlock):=(aa HK).call (aa HT2) (aa xK) (aa uM) hnn hk2 ha2;have jJ:=hide (KC.row h (aa HK) (aa uM) (aa HO));have hl2:=(aa HY).2.2 dE ru;have hl0:0<dE.length:=(List.length_pos_of_mem ((ru.mem 0).2 (og (aa HY).2.1)));have hs2:w.heap.size<=w2.heap.size:=(aa HK2).fr.size;have HL2:=hide ru;clear ru hk2 ha2 HT2 xK uM)
    | (at_builtin;refine wpList_append_lies w2 rfl (.tmp 14) (.tmp 17) 107 rfl w.heap.size 21 i0 _ 1 4 Tryz.underlying107 hi0 hz0 hz1 hz2 rfl (by omega) _ m (runeCells acc) rfl (aa jJ) ⟨g2,0,none⟩ dE.length cap2 (runeCells dE) rfl (by simp [runeCells]) ((aa HR2).own.cells rfl) (by intro u hu;obtain ⟨z,_,rfl⟩:=List.mem_map.1 hu;rfl) hl0 (by unfold maxLen;omega) (by omega) hs2 _ rfl ?_;intro g3 gB w3 ho3 hg3 adW hlt3;have qw:=hide ho3;have Z0:=hide (KC.at h (aa HK2) hg3 adW hlt3);clear ho3 hg3 adW))
   go_roundw
   case rel=>
    refine ⟨k'+1,some ⟨g3,0,none⟩,gB,m+dE.length,acc++dE,C2,by omega,by go_num,rfl,by show _=_;rw [List.length_append,<-aa HM],?_,Z0,by omega,fun c=>?_⟩
    ·show World.ownsRow _ _ _ _ _ _ _
     rw [show runeCells (acc++dE)=runeCells acc++runeCells dE from by simp [runeCells]]
     exact qw
    ·rw [List.mem_append,aa HA c,aa Yo,(aa HL2).mem c]
     constructor
     ·rintro (⟨n1,hn1,q⟩ | q)
      ·exact ⟨n1,List.mem_append_left _ hn1,q⟩
      ·exact ⟨n,by simp,y,(aa HY).1,q⟩
     ·rintro ⟨n1,hn1,y1,hy1,q⟩
      rcases List.mem_append.1 hn1 with q1 | q1
      ·exact .inl ⟨n1,q1,y1,hy1,q⟩
      ·rw [List.mem_singleton] at q1
       subst q1
       rw [hy1.uniq (aa HY).1] at q
       exact .inr q
   case measure=>simp [intOf];omega
  ·obtain rfl:k'=ns.length:=by omega
   rw [List.take_length] at HA
   have hacc:0<m:=by
    obtain ⟨a,r,rfl⟩:∃ a r,ns=a::r:=by cases ns with
     | nil=>exact absurd rfl hne
     | cons a r=>exact ⟨a,r,rfl⟩
    obtain ⟨-,y,hy,hok,-⟩:=aa HNS a (List.mem_cons_self ..)
    rw [aa HM]
    exact List.length_pos_of_mem ((aa HA 0).2 ⟨a,List.mem_cons_self ..,y,hy,og hok⟩)
   obtain ⟨ao',cap',e',hv⟩:=aO (aa HO)
   injection e' with e1 e2 e3
   subst e1
   subst e3
   obtain ⟨gL,rfl,hgb,SK,-,-⟩:=hv hacc
   have hcs:=ni _ (Kw acc)
   have fQ:=hide (Kt wr gL m cap acc (aa HM).symm hacc (by omega) (hide (fB (aa HO) (Nat.zero_le _))))
   have Ma:=hide (fun w2 (ho:w2.ownsRow 0 21 1 (.slice (some ⟨gL,0,none⟩) m cap) m (runeCells (jD acc)))=>G7 w2 gL m cap (jD acc) ((yC _).trans (aa HM).symm) (by omega) ho (Nat.le_trans hcs.2.2 (by rw [yC,<-aa HM];exact Nat.le_refl _)))
   have Tf:Hid (yx z (Lib.compact (jD acc))):=⟨hcs.1,fun c=>by rw [hcs.2.1 c,Fu,aa HA c,aa HZ c]⟩
   clear hcs hv
   go_wp2_with (first
    | (go_at_call 239;refine (aa fQ).mono ?_;clear fQ;rintro e w3 ⟨rfl,HX3⟩;have xK:=hide (aa Ma w3 (aa HX3).1);clear Ma)
    | (go_at_call 240;refine (aa xK).mono ?_;clear xK;rintro e w4 ⟨rfl,ho4,hg4⟩;have yA:=hide ho4;have ZQ:=hide hg4;clear ho4 hg4))
   go_ret
   have hk4:=((aa HK).grown h (aa HX3).2).grown h (aa ZQ)
   exact ⟨_,gL,cap,C',rfl,aa Tf,⟨aa yA,bf.eF h hgb⟩,hk4.tab,hk4.cv,hk4.fr,hk4.keys,fun P hP hA=>⟨hk4.av P hP hA,fun q=>by have:=hP gL q;omega⟩⟩
end
end Go.Proofs.YtfolanohokflkaaGreatDoor
namespace Go.Proofs.YtfolanohokflkaaGreatDoor
open Go.RowKit
open Tm (eps)
section
variable {w W W':World} {t:TB} {T:List Te} {N S C C' C2:List (Value×Value)} {n0:Nat} {B:List Int}
theorem mP.lift {y z:Tm} {ok ok':Nat->Prop} {e:Ending} (h:mP y W t T S C ok e W') (hf:bq t t w W) (hok:∀ i,ok i->ok' i) (hz:∀ c,sI y c↔sI z c):mP z w t T S C ok' e W':=by
 obtain ⟨dE,g,cap,C',h1,h2,h3,h4,h5,h6,h7,h8⟩:=h
 refine ⟨dE,g,cap,C',h1,⟨h2.rise,fun c=>(h2.mem c).trans (hz c)⟩,h3,h4,h5,hf.trans (aa h6),fun p hp=>?_,fun P hP hA=>h8 P (fun k hk=>Nat.lt_of_lt_of_le (hP k hk) hf.size) hA⟩
 rcases h7 p hp with q | ⟨i,q1,q2⟩
 ·exact .inl q
 ·exact .inr ⟨i,hok i q1,q2⟩
theorem bq.drewN {t:TB} {w w':World} (h:bq t t w w') (q:Nat):bq t t w (w'.drewN q):=⟨h.os,h.tape,h.output,h.size,h.block,h.tb,h.nb,h.sb,h.cb,h.row⟩
theorem Am {i:Nat} {y:Tm} (ha:He t T S n0 i) (hy:Rp T i y):i<n0/\∀ (W:World) (C:List (Value×Value)),Hid (bf W t T (ak T) S C)->Hid (iQ W t T C)->Calls Tryz.prog 125 #[.pointer (some ⟨t.tb,0,none⟩),.int .i64 i] W (mP y W t T S C (fun j=>j<=i)):=by
 obtain ⟨h1,y',h2,-,-,h3⟩:=ha
 rw [hy.uniq h2]
 exact ⟨h1,h3⟩
set_option maxRecDepth 100000 in
set_option maxHeartbeats 4000000 in
theorem aag {i:Nat} {y:Tm} (h:Hid (bf w t T (ak T) S C)) (hc:Hid (iQ w t T C)) (ha:He t T S n0 i) (hy:Rp T i y) :
  Calls Tryz.prog 177 #[.pointer (some ⟨t.tb,0,none⟩),iL (ed i)] w (mP (.star y) w t T S C (fun j=>j<n0)):=by
 unfold iL ed
 dsimp only
 obtain ⟨hin,Yl⟩:=Am ha hy
 have uu:Hid (bq t t w (w.alloc (.cells #[.int .i64 3,.string ⟨#[]⟩,.int .i64 (i:Int),.int .i64 0] 135))):=bq.below ((Below.refl _ _).alloc (Nat.le_refl _) _)
 have Ea:=hide (Yl (w.alloc (.cells #[.int .i64 3,.string ⟨#[]⟩,.int .i64 (i:Int),.int .i64 0] 135)) C (bf.alloc h _) (iQ.move hc (fun k hk _=>Below.heap_alloc w _ k hk)))
 clear h hc ha Yl
 go_enter Tryz.func177,Tryz.ntmps177
 go_wp2_with (go_at_call 125;refine (aa Ea).mono ?_;clear Ea;rintro x w2 HH;have g_:=hide HH;obtain ⟨l2,g2,cap2,C2,rfl,-⟩:=HH)
 go_ret
 exact (aa g_).lift (aa uu) (fun j hj=>by omega) (fun c=>Iff.rfl)
set_option maxRecDepth 100000 in
set_option maxHeartbeats 4000000 in
theorem acv {i:Nat} {y:Tm} (h:Hid (bf w t T (ak T) S C)) (hc:Hid (iQ w t T C)) (ha:He t T S n0 i) (hy:Rp T i y) :
  Calls Tryz.prog 188 #[.pointer (some ⟨t.tb,0,none⟩),iL (ek i)] w (mP (.not y) w t T S C (fun j=>j<n0)):=by
 unfold iL ek
 dsimp only
 obtain ⟨hin,Yl⟩:=Am ha hy
 have uu:Hid (bq t t w (w.alloc (.cells #[.int .i64 6,.string ⟨#[]⟩,.int .i64 (i:Int),.int .i64 0] 135))):=bq.below ((Below.refl _ _).alloc (Nat.le_refl _) _)
 have Ea:=hide (Yl (w.alloc (.cells #[.int .i64 6,.string ⟨#[]⟩,.int .i64 (i:Int),.int .i64 0] 135)) C (bf.alloc h _) (iQ.move hc (fun k hk _=>Below.heap_alloc w _ k hk)))
 clear h hc ha Yl
 go_enter Tryz.func188,Tryz.ntmps188
 go_wp2_with (go_at_call 125;refine (aa Ea).mono ?_;clear Ea;rintro x w2 HH;have g_:=hide HH;obtain ⟨l2,g2,cap2,C2,rfl,-⟩:=HH)
 go_ret
 exact (aa g_).lift (aa uu) (fun j hj=>by omega) (fun c=>Iff.rfl)
set_option maxRecDepth 100000 in
set_option maxHeartbeats 4000000 in
theorem WJ {i j:Nat} {x y:Tm} {ki:Ky} {b:Bool} (h:Hid (bf w t T (ak T) S C)) (hc:Hid (iQ w t T C)) (ha:He t T S n0 i) (hx:Rp T i x) (hb:T[i]? = some (ki,b)) (hbn:b=bZ x) (hy:Rp T j y) (ha2:b=true->He t T S n0 j) :
  Calls Tryz.prog 173 #[.pointer (some ⟨t.tb,0,none⟩),iL (bR i j)] w (mP (.chain x y) w t T S C (fun j=>j<n0)):=by
 unfold iL bR
 dsimp only
 have HA:=bf.alloc h (.cells #[.int .i64 2,.string ⟨#[]⟩,.int .i64 (i:Int),.int .i64 (j:Int)] 135)
 have uu:Hid (bq t t w (w.alloc (.cells #[.int .i64 2,.string ⟨#[]⟩,.int .i64 (i:Int),.int .i64 (j:Int)] 135))):=bq.below ((Below.refl _ _).alloc (Nat.le_refl _) _)
 have ql:=iQ.move (w':=w.alloc (.cells #[.int .i64 2,.string ⟨#[]⟩,.int .i64 (i:Int),.int .i64 (j:Int)] 135)) hc (fun k hk _=>Below.heap_alloc w _ k hk)
 obtain ⟨g,q2,-,-,-,-,a4⟩:=(aa HA).at hb
 have hlt:i<T.length:=(List.getElem?_eq_some_iff.1 hb).1
 have hI:(i:Int)<(T.length:Int):=by omega
 have hI0:(0:Int)<=(i:Int):=by omega
 have hsz:w.heap.size<(w.alloc (.cells #[.int .i64 2,.string ⟨#[]⟩,.int .i64 (i:Int),.int .i64 (j:Int)] 135)).heap.size:=by simp
 dsimp only at a4
 cases b with
 | false=>
  obtain ⟨hin,Yl⟩:=Am ha hx
  have Ea:=hide (fun q=>Yl ((w.alloc (.cells #[.int .i64 2,.string ⟨#[]⟩,.int .i64 (i:Int),.int .i64 (j:Int)] 135)).drewN q) C (hide ((aa HA).drew q)) (iQ.move ql (fun _ _ _=>rfl)))
  have C9:Hid (∀ c,sI x c↔sI (.chain x y) c):=fun c=>by simp [sI,<-hbn]
  clear h hc hb ha ha2 hbn HA ql Yl
  go_enter Tryz.func173,Tryz.ntmps173
  go_wp2_with fail
  go_quiet (fail)
  go_wp2_with (go_at_call 125;refine (aa Ea _).mono ?_;clear Ea;rintro x w2 HH;have g_:=hide HH;obtain ⟨l2,g2,cap2,C2,rfl,-⟩:=HH)
  go_ret
  exact (aa g_).lift (bq.drewN (aa uu) _) (fun j hj=>by omega) (aa C9)
 | true=>
  have ha2:=ha2 rfl
  have C9:Hid (∀ c,sI (.chain x y) c↔∃ n∈[i,j],∃ z,Rp T n z/\sI z c):=fun c=>by
   constructor
   ·rintro (q | ⟨-,q⟩)
    ·exact ⟨i,by simp,x,hx,q⟩
    ·exact ⟨j,by simp,y,hy,q⟩
   ·rintro ⟨n,hn,z,hz,q⟩
    rcases List.mem_cons.1 hn with e | e
    ·subst e;rw [hz.uniq hx] at q;exact .inl q
    ·rw [List.mem_singleton] at e;subst e;rw [hz.uniq hy] at q;exact .inr ⟨hbn.symm,q⟩
  have Tg:Hid (∀ q,((w.alloc (.cells #[.int .i64 2,.string ⟨#[]⟩,.int .i64 (i:Int),.int .i64 (j:Int)] 135)).drewN q).heap.size=w.heap.size+1):=fun q=>World.size_alloc ..
  have Ea:=hide (fun q=>sW (n0:=n0) (ns:=[i,j]) (z:=.chain x y) (g0:=w.heap.size+1) (cap0:=2) (w:=((w.alloc (.cells #[.int .i64 2,.string ⟨#[]⟩,.int .i64 (i:Int),.int .i64 (j:Int)] 135)).drewN q).alloc (.cells #[.int .i64 (i:Int),.int .i64 (j:Int)] 3))
   (bf.alloc (hide ((aa HA).drew q)) _) (iQ.move (iQ.move (w':=(w.alloc (.cells #[.int .i64 2,.string ⟨#[]⟩,.int .i64 (i:Int),.int .i64 (j:Int)] 135)).drewN q) ql (fun _ _ _=>rfl)) (fun k hk _=>Below.heap_alloc _ _ k hk)) (by simp) (by simp) (fun n hn=>by
    rcases List.mem_cons.1 hn with e | e
    ·rw [e];exact ha
    ·rw [List.mem_singleton] at e;rw [e];exact ha2) (aa C9)
   (fun k n hk=>by
    have hb:=heap_alloc_new ((w.alloc (.cells #[.int .i64 2,.string ⟨#[]⟩,.int .i64 (i:Int),.int .i64 (j:Int)] 135)).drewN q) (.cells #[.int .i64 (i:Int),.int .i64 (j:Int)] 3)
    rw [aa Tg q] at hb
    rw [cell_of_row _ _ k _ _ _ hb]
    match k,hk with
    | 0,hk=>cases hk;rfl
    | 1,hk=>cases hk;rfl) (by rw [World.size_alloc,aa Tg q];exact Nat.lt_succ_self _) (bf.eF (hide ((aa HA).drew q)) (by rw [aa Tg q];exact Nat.le_refl _)) (Nat.le_refl _))
  rw [show [i,j].length=2 from rfl] at Ea
  have uM:Hid (∀ q,bq t t w (((w.alloc (.cells #[.int .i64 2,.string ⟨#[]⟩,.int .i64 (i:Int),.int .i64 (j:Int)] 135)).drewN q).alloc (.cells #[.int .i64 (i:Int),.int .i64 (j:Int)] 3))):=fun q=>(bq.drewN (aa uu) q).trans (bq.below ((Below.refl _ _).alloc (Nat.le_refl _) _))
  clear h hc hb ha ha2 hbn HA ql C9 uu
  go_enter Tryz.func173,Tryz.ntmps173
  go_wp2_with fail
  go_quiet (fail)
  go_wp2_with (go_at_call 174;refine (aa Ea _).mono ?_;clear Ea;rintro x w2 HH;have g_:=hide HH;obtain ⟨l2,g2,cap2,C2,rfl,-⟩:=HH)
  go_ret
  exact (aa g_).lift (aa uM _) (fun j hj=>hj) (fun c=>Iff.rfl)
def kF3 (k:Bool):Nat:=if k=true then 185 else 182
set_option maxRecDepth 100000 in
set_option maxHeartbeats 4000000 in
theorem acw {k:Bool} {i j:Nat} {l:List Nat} {z:Tm} (h:Hid (bf w t T (ak T) S C)) (hc:Hid (iQ w t T C)) (hw:uL T) (hsp:kF T k j l) (hl:l.length+1<=1000000) (ha:∀ n∈i::l,He t T S n0 n) (hz:∀ c,sI z c↔∃ n∈i::l,∃ y,Rp T n y/\sI y c) :
  Calls Tryz.prog (kF3 k) #[.pointer (some ⟨t.tb,0,none⟩),iL (cB k i j)] w (mP z w t T S C (fun j=>j<n0)):=by
 have HP:=hide (Fx (i:=i) (bf.alloc h (.cells #[.int .i64 (kk k),.string ⟨#[]⟩,.int .i64 (i:Int),.int .i64 (j:Int)] 135)) hw hsp (by omega))
 have uu:Hid (bq t t w (w.alloc (.cells #[.int .i64 (kk k),.string ⟨#[]⟩,.int .i64 (i:Int),.int .i64 (j:Int)] 135))):=bq.below ((Below.refl _ _).alloc (Nat.le_refl _) _)
 have HTA:=bf.alloc h (.cells #[.int .i64 (kk k),.string ⟨#[]⟩,.int .i64 (i:Int),.int .i64 (j:Int)] 135)
 have ql:=iQ.move (w':=w.alloc (.cells #[.int .i64 (kk k),.string ⟨#[]⟩,.int .i64 (i:Int),.int .i64 (j:Int)] 135)) hc (fun k hk _=>Below.heap_alloc w _ k hk)
 have HAL:=hide (fun (w2:World) (g cap:Nat) (hb:Below (w.alloc (.cells #[.int .i64 (kk k),.string ⟨#[]⟩,.int .i64 (i:Int),.int .i64 (j:Int)] 135)).heap.size (w.alloc (.cells #[.int .i64 (kk k),.string ⟨#[]⟩,.int .i64 (i:Int),.int .i64 (j:Int)] 135)) w2) (ho:w2.ownsRow (w.alloc (.cells #[.int .i64 (kk k),.string ⟨#[]⟩,.int .i64 (i:Int),.int .i64 (j:Int)] 135)).heap.size 3 1 (.slice (some ⟨g,0,none⟩) (l.length+1) cap) (l.length+1) (ints (ay (i::l))))=>
  sW (n0:=n0) (ns:=i::l) (z:=z) (g0:=g) (cap0:=cap) (bf.below HTA hb) (iQ.below ql hb) (by simp) (by simp;omega) ha hz (fun k n hk=>by
   have hkl:k<l.length+1:=(List.getElem?_eq_some_iff.1 hk).1
   rw [ho.cellAt k (by omega)]
   unfold ints ay
   rw [List.getElem?_map,List.getElem?_map,hk];rfl) (ho.lt g rfl).2 (bf.eF HTA (ho.lt g rfl).1) (Al ho))
 rw [show (i::l).length=l.length+1 from rfl] at HAL
 unfold iL cB at HP
 unfold iL cB kF3
 dsimp only at HP ⊢
 clear h hc hw hsp ha hz HTA ql
 cases k with
 | false=>
  rw [if_neg (by simp)]
  rw [show kk false=4 from rfl] at uu HAL HP ⊢
  go_enter Tryz.func182,Tryz.ntmps182
  go_wp2_with (first
   | (go_at_call 181;refine (aa HP).mono ?_;clear HP;rintro x w2 ⟨g2,cap2,rfl,jJ,HB2⟩;have Ea:=hide (aa HAL w2 g2 cap2 (aa HB2) (aa jJ));clear HAL)
   | (go_at_call 174;refine (aa Ea).mono ?_;clear Ea;rintro x w3 HH;have g_:=hide HH;obtain ⟨l3,g3,gB,C3,rfl,-⟩:=HH))
  go_ret
  exact (aa g_).lift ((aa uu).trans (bq.below (aa HB2))) (fun j hj=>hj) (fun c=>Iff.rfl)
 | true=>
  rw [if_pos rfl]
  rw [show kk true=5 from rfl] at uu HAL HP ⊢
  go_enter Tryz.func185,Tryz.ntmps185
  go_wp2_with (first
   | (go_at_call 181;refine (aa HP).mono ?_;clear HP;rintro x w2 ⟨g2,cap2,rfl,jJ,HB2⟩;have Ea:=hide (aa HAL w2 g2 cap2 (aa HB2) (aa jJ));clear HAL)
   | (go_at_call 174;refine (aa Ea).mono ?_;clear Ea;rintro x w3 HH;have g_:=hide HH;obtain ⟨l3,g3,gB,C3,rfl,-⟩:=HH))
  go_ret
  exact (aa g_).lift ((aa uu).trans (bq.below (aa HB2))) (fun j hj=>hj) (fun c=>Iff.rfl)
end
end Go.Proofs.YtfolanohokflkaaGreatDoor
