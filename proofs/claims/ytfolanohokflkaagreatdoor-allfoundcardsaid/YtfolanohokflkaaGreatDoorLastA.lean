import Derived.OrdersHeld
import Derived.Deep.RegionHeld3
namespace Go.Proofs.YtfolanohokflkaaGreatDoor
def oH (ops:Array Oper) (J:Oper):Bool:=
 (List.range ops.size).all (fun i=>match ops[i]? with
  | some o=>o.guard.isNone&&o.after.all (fun e=>!Region.binds .any e||decide (e.on<i))
  | none=>true) &&
 J.guard.isNone&&J.after.all (fun e=>!Region.binds .any e||decide (e.on<ops.size)) &&
 (List.range ops.size).all (fun i=>J.after.any (fun e=>Region.binds .any e&&e.on==i)||(List.range ops.size).any fun k=>decide (i<k)&&(match ops[k]? with
  | some o=>o.after.any fun e=>Region.binds .any e&&e.on==i
  | none=>false))
section
variable {ops:Array Oper} {J:Oper}
theorem kX (h:oH ops J=true):(∀ i o,ops[i]? = some o->o.guard=none/\∀ e∈o.after,Region.binds .any e=true->e.on<i)/\J.guard=none /\
  (∀ e∈J.after,Region.binds .any e=true->e.on<ops.size)/\∀ i,i<ops.size->(∃ e∈J.after,Region.binds .any e=true/\e.on=i)\/∃ k o,i<k/\ops[k]? = some o/\∃ e∈o.after,Region.binds .any e=true/\e.on=i:=by
 simp only [oH,Bool.and_eq_true,List.all_eq_true,List.mem_range,Option.isNone_iff_eq_none] at h
 obtain ⟨⟨⟨h1,h2⟩,h3⟩,h4⟩:=h
 refine ⟨fun i o ho=>?_,h2,fun e he hb=>?_,fun i hi=>?_⟩
 ·have hi:i<ops.size:=(Array.getElem?_eq_some_iff.1 ho).1
  have:=h1 i hi
  rw [ho] at this
  simp only [Bool.and_eq_true,Option.isNone_iff_eq_none] at this
  refine ⟨this.1,fun e he hb=>?_⟩
  have h5:=Array.all_eq_true_iff_forall_mem.1 this.2 e he
  simpa [hb] using h5
 ·have h5:=Array.all_eq_true_iff_forall_mem.1 h3 e he
  simpa [hb] using h5
 ·have:=h4 i hi
  rw [Bool.or_eq_true,List.any_eq_true] at this
  rcases this with this | ⟨k,hk,this⟩
  ·rw [Array.any_eq_true] at this
   obtain ⟨k,hk,he⟩:=this
   simp only [Bool.and_eq_true,beq_iff_eq] at he
   exact .inl ⟨_,Array.getElem_mem hk,he.1,he.2⟩
  ·rw [Bool.and_eq_true,decide_eq_true_eq] at this
   obtain ⟨hik,this⟩:=this
   rw [List.mem_range] at hk
   rw [Array.getElem?_eq_getElem hk] at this
   dsimp only at this
   rw [Array.any_eq_true] at this
   obtain ⟨m,hm,he⟩:=this
   simp only [Bool.and_eq_true,beq_iff_eq] at he
   exact .inr ⟨k,_,hik,Array.getElem?_eq_getElem hk,_,Array.getElem_mem hm,he.1,he.2⟩
def Grown (ops:Array Oper) (listed:Array Bool):Prop:=∀ i o,ops[i]? = some o->listed.getD i true=true->∀ e∈o.after,Region.binds .any e=true->listed.getD e.on false=true
theorem mem_ready {md:Region.Mode} {ops:Array Oper} {listed:Array Bool} {i:Nat}:i∈Region.ready md ops listed↔i<ops.size/\listed.getD i true=false/\∃ o,ops[i]? = some o/\∀ e∈o.after,Region.binds md e=true->listed.getD e.on false=true:=by
 unfold Region.ready
 rw [List.mem_filter,List.mem_range]
 constructor
 ·rintro ⟨h1,h2⟩
  rw [Bool.and_eq_true] at h2
  refine ⟨h1,by simpa using h2.1,?_⟩
  have h3:=h2.2
  rw [Array.getElem?_eq_getElem h1] at h3 ⊢
  refine ⟨_,rfl,fun e he hb=>?_⟩
  simp only [Option.map_some,Option.getD_some] at h3
  have:=Array.all_eq_true_iff_forall_mem.1 h3 e he
  simpa [hb] using this
 ·rintro ⟨h1,h2,o,ho,h3⟩
  refine ⟨h1,?_⟩
  rw [Bool.and_eq_true]
  refine ⟨by simp [h2],?_⟩
  rw [ho]
  simp only [Option.map_some,Option.getD_some]
  refine Array.all_eq_true_iff_forall_mem.2 fun e he=>?_
  cases hb:Region.binds md e
  ·rfl
  ·simpa [hb] using h3 e he hb
theorem jV {l:Array Bool} {b d:Bool} {i:Nat} (h:i<l.size):(l.push b).getD i d=l.getD i d:=by
 simp [Array.getD_eq_getD_getElem?,Array.getElem?_push,Nat.ne_of_lt h]
theorem Ay {l:Array Bool} {b d:Bool}:(l.push b).getD l.size d=b:=by
 simp [Array.getD_eq_getD_getElem?]
theorem Ef {l:Array Bool} {i:Nat} (h:i<l.size) (d d':Bool):l.getD i d=l.getD i d':=by
 simp [Array.getD_eq_getD_getElem?,Array.getElem?_eq_getElem h]
theorem Mc (h:oH ops J=true) {listed:Array Bool} (hl:listed.size=ops.size) (hg:Grown ops listed):∀ (d k:Nat),ops.size - k<=d->k<ops.size->listed.getD k true=false->∃ m,m<ops.size/\listed.getD m true=false/\∃ e∈J.after,Region.binds .any e=true/\e.on=m:=by
 obtain ⟨p1,p2,p3,p4⟩:=kX h
 intro d
 induction d with
 | zero=>intro k h1 h2;omega
 | succ d ih=>
  intro k h1 h2 h3
  rcases p4 k h2 with hj | ⟨k',o,hk,ho,e,he,hb,hon⟩
  ·exact ⟨k,h2,h3,hj⟩
  ·have hk':k'<ops.size:=(Array.getElem?_eq_some_iff.1 ho).1
   cases hc:listed.getD k' true with
   | false=>exact ih k' (by omega) hk' hc
   | true=>
    have:=hg k' o ho hc e he hb
    rw [hon,Ef (by omega) false true,h3] at this
    cases this
theorem Az (h:oH ops J=true) {listed:Array Bool} (hl:listed.size=ops.size) (hg:Grown ops listed) {k:Nat} (hk:k<ops.size) (hu:listed.getD k true=false) (i:Nat):i∈Region.ready .any (ops.push J) (listed.push false)↔i∈Region.ready .any ops listed:=by
 obtain ⟨p1,p2,p3,p4⟩:=kX h
 obtain ⟨m,hm,hmu,e,he,hb,hon⟩:=Mc h hl hg (ops.size) k (by omega) hk hu
 rw [mem_ready,mem_ready]
 constructor
 ·rintro ⟨h1,h2,o,ho,h3⟩
  have hne:i≠ops.size:=by
   intro ee
   subst ee
   simp at ho
   subst ho
   have:=h3 e he hb
   rw [hon,jV (by omega),Ef (by omega) false true,hmu] at this
   cases this
  have hi:i<ops.size:=by simp at h1;omega
  rw [Array.getElem?_push,if_neg hne] at ho
  refine ⟨hi,by rw [<-jV (b:=false) (by omega)];exact h2,o,ho,fun e he hb=>?_⟩
  have hlt:=(p1 i o ho).2 e he hb
  rw [<-jV (b:=false) (by omega)]
  exact h3 e he hb
 ·rintro ⟨h1,h2,o,ho,h3⟩
  refine ⟨by simp;omega,by rw [jV (by omega)];exact h2,o,by rw [Array.getElem?_push,if_neg (by omega)];exact ho,fun e he hb=>?_⟩
  have hlt:=(p1 i o ho).2 e he hb
  rw [jV (by omega)]
  exact h3 e he hb
theorem Eg (h:oH ops J=true) {listed:Array Bool} (hl:listed.size=ops.size) (hall:∀ k,k<ops.size->listed.getD k true=true) (i:Nat):i∈Region.ready .any (ops.push J) (listed.push false)↔i=ops.size:=by
 obtain ⟨p1,p2,p3,p4⟩:=kX h
 rw [mem_ready]
 constructor
 ·rintro ⟨h1,h2,-⟩
  by_cases hi:i<ops.size
  ·rw [jV (by omega),hall i hi] at h2
   cases h2
  ·simp at h1;omega
 ·rintro rfl
  refine ⟨by simp,by rw [<-hl,Ay],J,by simp,fun e he hb=>?_⟩
  have hlt:=p3 e he hb
  rw [jV (by omega)]
  have:=hall e.on hlt
  rw [Array.getD_eq_getD_getElem?,Array.getElem?_eq_getElem (by omega)] at this ⊢
  exact this
theorem AA (h:oH ops J=true) {listed:Array Bool} (hl:listed.size=ops.size) (hr:Region.ready .any ops listed=[]):∀ k,k<ops.size->listed.getD k true=true:=by
 obtain ⟨p1,p2,p3,p4⟩:=kX h
 intro k
 induction k using Nat.strongRecOn with
 | ind k ih=>
  intro hk
  cases hc:listed.getD k true with
  | true=>rfl
  | false=>
   have:k∈Region.ready .any ops listed:=mem_ready.2 ⟨hk,hc,ops[k],Array.getElem?_eq_getElem hk,fun e he hb=>by
    have hlt:=(p1 k _ (Array.getElem?_eq_getElem hk)).2 e he hb
    have:=ih e.on hlt (by omega)
    rw [Array.getD_eq_getD_getElem?,Array.getElem?_eq_getElem (by omega)] at this ⊢
    exact this⟩
   rw [hr] at this
   cases this
variable {P:Program} {Q:Exit->Act->World->Prop}
abbrev Eh (P:Program) (J:Oper) (Q:Exit->Act->World->Prop):Exit->Act->World->Prop:=Exit.then (fun a w=>Oper.wp P J a w (fun a w=>Q .normal a w) Q) Q
theorem TP {o:Oper} {a:Act} {w:World} {K K':Act->World->Prop} (hK:∀ a w,K a w->K' a w) (h:Oper.wp P o a w K (Eh P J Q)):Oper.wp P o a w K' Q:=by
 unfold Oper.wp at *
 generalize (execOp a.eval o).run P w=r at *
 cases r with
 | ok n w'=>
  cases n<;>simp only [Oper.upon] at h ⊢ <;>
   first
    | exact hK _ _ h
    | exact Calls.mono h (fun e w'' he=>by cases e<;>first | exact hK _ _ he | exact he)
    | exact Rows.mono h (fun _ _ he=>hK _ _ he)
 | halt x w'=>cases x<;>simp only [Oper.upon] at h ⊢<;>exact h
theorem Md (h:oH ops J=true) {i:Nat} (hi:i<ops.size) {a:Act} {w:World} {K K':Act->World->Prop} (hK:∀ a w,K a w->K' a w) (hh:wpOp P ops (Eh P J Q) i K a w):wpOp P (ops.push J) Q i K' a w:=by
 obtain ⟨p1,p2,p3,p4⟩:=kX h
 have e1:ops[i]? = some ops[i]:=Array.getElem?_eq_getElem hi
 have e2:(ops.push J)[i]? = some ops[i]:=by rw [Array.getElem?_push,if_neg (by omega)];exact e1
 have hg:=(p1 i _ e1).1
 unfold wpOp at *
 rw [e1] at hh
 rw [e2]
 dsimp only at hh ⊢
 have w1:Region.wanted ops[i] (yielded ops a.tmps)=true:=by simp [Region.wanted,hg]
 have w2:Region.wanted ops[i] (yielded (ops.push J) a.tmps)=true:=by simp [Region.wanted,hg]
 rw [if_pos w1] at hh
 rw [if_pos w2]
 exact hh.imp (TP hK) id
theorem Me (h:oH ops J=true):∀ (fuel:Nat) (listed:Array Bool) (a:Act) (w:World),listed.size=ops.size->Grown ops listed->wpAny P .any ops (Eh P J Q) fuel listed a w->wpAny P .any (ops.push J) Q (fuel+1) (listed.push false) a w:=by
 obtain ⟨p1,p2,p3,p4⟩:=kX h
 have last:∀ (fuel:Nat) (listed:Array Bool) (a:Act) (w:World),listed.size=ops.size->(∀ k,k<ops.size->listed.getD k true=true)->Eh P J Q .normal a w->wpAny P .any (ops.push J) Q (fuel+1) (listed.push false) a w:=by
  intro fuel listed a w hl hall hq
  refine ⟨fun h0=>?_,fun i hi=>?_⟩
  ·have:ops.size∈Region.ready .any (ops.push J) (listed.push false):=(Eg h hl hall _).2 rfl
   rw [h0] at this
   cases this
  ·have hi':=(Eg h hl hall i).1 hi
   subst hi'
   have e2:(ops.push J)[ops.size]? = some J:=by simp
   unfold wpOp
   rw [e2]
   dsimp only
   rw [if_pos (by simp [Region.wanted,p2])]
   refine .inl (Oper.wp_mono (fun a' w' hn=>wpAny_done ?_ hn fuel) hq)
   refine List.eq_nil_iff_forall_not_mem.2 fun j hj=>?_
   obtain ⟨h1,h2,-⟩:=mem_ready.1 hj
   by_cases hjn:j=ops.size
   ·subst hjn
    rw [Array.getD_eq_getD_getElem?,Array.getElem?_setIfInBounds_self,if_pos (by simp;omega)] at h2
    cases h2
   ·have hj':j<ops.size:=by simp at h1;omega
    rw [Array.getD_eq_getD_getElem?,Array.getElem?_setIfInBounds_ne (by omega),<-Array.getD_eq_getD_getElem?,jV (by omega),hall j hj'] at h2
    cases h2
 intro fuel
 induction fuel with
 | zero=>intro listed a w hl hg hh;exact last 0 listed a w hl (AA h hl hh.1) hh.2
 | succ fuel ih=>
  intro listed a w hl hg hh
  by_cases hr:Region.ready .any ops listed=[]
  ·exact last (fuel+1) listed a w hl (AA h hl hr) (hh.1 hr)
  ·obtain ⟨k,hk⟩:=List.exists_mem_of_ne_nil _ hr
   obtain ⟨k1,k2,-⟩:=mem_ready.1 hk
   refine ⟨fun h0=>?_,fun i hi=>?_⟩
   ·have:=(Az h hl hg k1 k2 k).2 hk
    rw [h0] at this
    cases this
   ·have hi':=(Az h hl hg k1 k2 i).1 hi
    obtain ⟨i1,i2,oi,hoi,acM⟩:=mem_ready.1 hi'
    refine Md h i1 (fun a' w' hw=>?_) (hh.2 i hi')
    have hg':Grown ops (listed.setIfInBounds i true):=by
     intro j o ho hj e he hb
     have hold:listed.getD e.on false=true:=by
      by_cases hij:i=j
      ·subst hij
       rw [hoi] at ho
       cases ho
       exact acM e he hb
      ·refine hg j o ho ?_ e he hb
       rw [Array.getD_eq_getD_getElem?,Array.getElem?_setIfInBounds_ne hij,<-Array.getD_eq_getD_getElem?] at hj
       exact hj
     by_cases hie:i=e.on
     ·rw [<-hie,Array.getD_eq_getD_getElem?,Array.getElem?_setIfInBounds_self,if_pos (by omega)]
      rfl
     ·rw [Array.getD_eq_getD_getElem?,Array.getElem?_setIfInBounds_ne hie,<-Array.getD_eq_getD_getElem?]
      exact hold
    have:=ih (listed.setIfInBounds i true) a' w' (by simp [hl]) hg' hw
    have e:(listed.push false).setIfInBounds i true=(listed.setIfInBounds i true).push false:=by
     apply Array.ext_getElem?
     intro m
     by_cases him:i=m
     ·subst him
      rw [Array.getElem?_setIfInBounds_self,if_pos (by simp;omega),Array.getElem?_push,if_neg (by simp;omega),Array.getElem?_setIfInBounds_self,if_pos (by omega)]
     ·rw [Array.getElem?_setIfInBounds_ne him,Array.getElem?_push,Array.getElem?_push,Array.getElem?_setIfInBounds_ne him,Array.size_setIfInBounds]
    rw [e]
    exact this
theorem Ih {id:Nat} {ops':Array Oper} {a:Act} {w:World} {S:World->Prop} (he:ops'=ops.push J) (h:oH ops J=true) (hm:P.follows .mixedOrders=true) (hS:S w.drew)
  (hh:S w.drew->wpAnyH P .any ops (Eh P J Q) S ops.size (Array.replicate ops.size false) a w.drew):(Code.region id ops' true).wp P Q a w:=by
 subst he
 refine wp_region_any hm ?_
 have:=Me h ops.size (Array.replicate ops.size false) a w.drew (by simp) (fun i o ho hi=>by
  have hlt:i<ops.size:=(Array.getElem?_eq_some_iff.1 ho).1
  rw [Array.getD_eq_getD_getElem?,Array.getElem?_eq_getElem (by simpa using hlt)] at hi
  simp at hi) (wpAny_of_held _ _ _ _ (hh hS))
 rw [Array.size_push,Array.replicate_succ]
 exact this
theorem AB {id:Nat} {ops':Array Oper} {J:Oper} {a:Act} {w:World} {S:World->Prop} (hJ:ops'.back? = some J) (h:oH ops'.pop J=true) (hm:P.follows .mixedOrders=true) (hS:S w.drew)
  (hh:S w.drew->wpAnyH P .any ops'.pop (Eh P J Q) S ops'.pop.size (Array.replicate ops'.pop.size false) a w.drew):(Code.region id ops' true).wp P Q a w:=
 Ih (by
  have:0<ops'.size:=by
   rcases Nat.eq_zero_or_pos ops'.size with h0 | h0
   ·rw [Array.back?_eq_getElem?,h0] at hJ
    simp [h0] at hJ
   ·exact h0
  apply Array.ext (by simp;omega)
  intro i h1 h2
  rw [Array.getElem_push]
  split
  ·simp
  ·rename_i hi
   have e:i=ops'.size - 1:=by simp at hi;omega
   subst e
   rw [Array.back?_eq_getElem?,Array.getElem?_eq_getElem h1] at hJ
   injection hJ) h hm hS hh
end
end Go.Proofs.YtfolanohokflkaaGreatDoor
