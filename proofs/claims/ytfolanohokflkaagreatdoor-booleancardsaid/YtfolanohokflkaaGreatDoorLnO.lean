import Derived.Test.YtfolanohokflkaaGreatDoorLnJ
import Derived.Test.YtfolanohokflkaaGreatDoorPSpec
namespace Go.Proofs.YtfolanohokflkaaGreatDoor
open Tm (eps)
def nK (c:Int):Tm->Nat
 | .chain a b=>dP (aG c a)+(memT false (aG c (.chain a b))).length+2
 | .star a=>dP (aG c a)
 | .not _=>1
 | .aT k a b=>(memT k (aG c (.aT k a b))).length+2
 | _=>0
def kB (h:Tm):Nat:=(2*bH h+1)*62+bH h+6
def kA (t:Tm):Nat:=5*bH t+9
abbrev Gx:=(Tm×Int)×Nat
def abE (t:Tm) (X:List (List Int×Int)):List Gx:=(C8 t).flatMap fun p=>X.map fun x=>((aO p.1 x.1,x.2),kB p.1)
def abF (t:Tm) (X:List (List Int×Int)):List Gx:=(C8 t).flatMap fun s=>(C8 s.1).flatMap fun p=>X.map fun x=>((au (aO p.1 x.1) p.2,x.2),kA t)
def Ec (t:Tm) (X:List (List Int×Int)):List Gx:=abE t X++abF t X
theorem abG {h:Tm} (hh:Cn h) {v:List Int} {c:Int} (hw:fB (v++[c])) (hl:v.length<=60) (hc:bI (aO h v)=false):nK c (aO h v)<=kB h:=by
 have hb:=fun k=>abC hh hw k
 have hm:(2*bH h+1)*(v.length+2)<=(2*bH h+1)*62:=Nat.mul_le_mul_left _ (by omega)
 unfold kB
 cases hx:aO h v with
 | chain a b=>rw [hx] at hc;cases hc
 | set l=>simp [nK]
 | eps=>simp [nK]
 | not a=>simp only [nK];omega
 | aT k a b=>
  have:=hb k
  rw [hx] at this
  simp only [nK]
  omega
 | star a=>
  have ha:a∈dm h:=uC v hh (by rw [hx];exact List.mem_cons_self ..)
  obtain ⟨z',p⟩:=IE _ (Nat.le_refl _) eps ha
  have pa:=p.trans (.star (.here _ _))
  have h1:=spine (pa.cn hh trivial).1 (u:=[c]) (fun d hd=>hw d (List.mem_append_right _ hd))
  have h2:=pa.nz
  have e:aO a [c]=aG c a:=rfl
  rw [e] at h1
  simp only [nK]
  omega
theorem abH {t y:Tm} (ht:Cn t) {w:List Int} {c:Int} (hw:fB (w++[c])) (hl:w.length<=60) {X:List (List Int×Int)} (hX:∀ v,v <:+ w->(v,c)∈X) (h:Gm (aO t w) y):cu y=true\/∃ k,((y,c),k)∈Ec t X/\nK c y<=k:=by
 rcases Ea _ (Nat.le_refl _) ht w hw.left y h with q | ⟨s,z0,p0,h0,z,v,p,hvw,e,hc,he⟩
 ·exact .inl q
 have hs:=(p0.cn ht trivial).1
 have hh:=(p.cn hs trivial).1
 have VR:fB (v++[c]):=by
  obtain ⟨q,rfl⟩:=hvw
  intro d hd
  refine hw d ?_
  rw [List.append_assoc]
  exact List.mem_append_right _ hd
 have hvl:v.length<=60:=Nat.le_trans hvw.length_le hl
 by_cases ig:z=eps
 ·subst ig
  rw [ai] at e
  subst e
  have pc:=p0.comp ht p
  exact .inr ⟨kB h0,List.mem_append_left _ (List.mem_flatMap.2 ⟨_,pc.listed,List.mem_map.2 ⟨(v,c),hX v hvw,rfl⟩⟩),abG hh VR hvl hc⟩
 by_cases tF:aO h0 v=aH
 ·rw [tF,aQ] at e
  subst e
  exact .inl rfl
 have hz:=(p.follow hs trivial (by simp)).1
 have e0:=bD hc tF he hz ig
 refine .inr ⟨kA t,List.mem_append_right _ (List.mem_flatMap.2 ⟨_,p0.listed,List.mem_flatMap.2 ⟨_,p.listed,List.mem_map.2 ⟨(v,c),hX v hvw,by rw [e]⟩⟩⟩),?_⟩
 rw [e,e0]
 have h1:=abD hs VR p ig hc he tF
 have h2:=spine hh VR
 rw [ji] at h2
 have h3:=p.nz
 have h4:=p0.nz
 simp only [nK,kA]
 omega
def vV (G:List Gx):Nat:=bB (G.map (·.2))
theorem IJ (a b:List Gx):vV (a++b)=vV a+vV b:=by unfold vV;rw [List.map_append,kK]
theorem uD {α:Type} (f:α->Tm×Int) (k:Nat):∀ l:List α,vV (l.map fun x=>(f x,k))=l.length*k
 | []=>by simp [vV,bB]
 | a::l=>by
  have:=uD f k l
  unfold vV at this ⊢
  simp only [List.map_cons,bB,List.length_cons,this,Nat.add_mul,Nat.one_mul]
  omega
theorem sH {α:Type} (f:α->List Gx) (g:α->Nat):∀ l:List α,(∀ a∈l,vV (f a)<=g a)->vV (l.flatMap f)<=bB (l.map g)
 | [],_=>by simp [vV,bB]
 | a::l,h=>by
  have h1:=h a (List.mem_cons_self ..)
  have h2:=sH f g l fun b hb=>h b (List.mem_cons_of_mem _ hb)
  rw [List.flatMap_cons,IJ,List.map_cons,bB]
  omega
theorem vW {α:Type} (g:α->Nat) (a b:Nat):∀ l:List α,bB (l.map fun x=>g x*a+b)=bB (l.map g)*a+l.length*b
 | []=>by simp [bB]
 | x::l=>by
  have:=vW g a b l
  simp only [List.map_cons,bB,List.length_cons,this,Nat.add_mul,Nat.one_mul]
  omega
theorem Xh {t:Tm} {X:List (List Int×Int)} {n h z:Nat} (hX:X.length<=n) (hh:hF false Option.none t<=h) (hz:bH t<=z):vV (Ec t X)<=n*((h*z)*125+(2*z+1)*68)+n*((2*(h*z)+(2*z+1))*(5*z+9)):=by
 have hs:=nJ false Option.none t eps
 have hl:=kJ false Option.none t eps
 have hS:hF false Option.none t*bH t<=h*z:=Nat.mul_le_mul hh hz
 generalize hS0:bB ((C8 t).map fun p=>bH p.1)=S at hs
 have abI:S<=h*z:=Nat.le_trans hs hS
 have abJ:(C8 t).length<=2*z+1:=by have:(C8 t).length<=2*bH t+1:=hl;omega
 unfold Ec
 rw [IJ]
 refine Nat.add_le_add ?_ ?_
 ·refine Nat.le_trans (sH _ (fun p:Tm×Tm=>(bH p.1*125+68)*n) _ fun p _=>?_) ?_
  ·rw [uD,Nat.mul_comm]
   exact Nat.mul_le_mul (by unfold kB;omega) hX
  ·have e:(fun p:Tm×Tm=>(bH p.1*125+68)*n)=fun p:Tm×Tm=>bH p.1*(125*n)+68*n:=by
    funext p;rw [Nat.add_mul,Nat.mul_assoc]
   rw [e,vW (fun p:Tm×Tm=>bH p.1),hS0]
   have h1:S*(125*n)<=(h*z)*(125*n):=Nat.mul_le_mul_right _ abI
   have h2:(C8 t).length*(68*n)<=(2*z+1)*(68*n):=Nat.mul_le_mul_right _ abJ
   refine Nat.le_trans (Nat.add_le_add h1 h2) (Nat.le_of_eq ?_)
   rw [Nat.mul_add,Nat.mul_comm n,Nat.mul_comm n,Nat.mul_assoc (h*z),Nat.mul_assoc (2*z+1)]
 ·refine Nat.le_trans (sH _ (fun s:Tm×Tm=>(2*bH s.1+1)*(n*(5*z+9))) _ fun s _=>?_) ?_
  ·refine Nat.le_trans (sH _ (fun _:Tm×Tm=>n*(5*z+9)) _ fun p _=>?_) ?_
   ·rw [uD]
    exact Nat.mul_le_mul hX (by unfold kA;omega)
   ·have e:=vW (fun _:Tm×Tm=>0) 0 (n*(5*z+9)) (C8 s.1)
    simp only [Nat.mul_zero,Nat.zero_add] at e
    rw [e]
    exact Nat.mul_le_mul_right _ (kJ _ _ _ _)
  ·have e:(fun s:Tm×Tm=>(2*bH s.1+1)*(n*(5*z+9)))=fun s:Tm×Tm=>bH s.1*(2*(n*(5*z+9)))+n*(5*z+9):=by
    funext s;rw [Nat.add_mul,Nat.one_mul,Nat.mul_comm 2,Nat.mul_assoc]
   rw [e,vW (fun p:Tm×Tm=>bH p.1),hS0]
   have h1:S*(2*(n*(5*z+9)))<=(h*z)*(2*(n*(5*z+9))):=Nat.mul_le_mul_right _ abI
   have h2:(C8 t).length*(n*(5*z+9))<=(2*z+1)*(n*(5*z+9)):=Nat.mul_le_mul_right _ abJ
   refine Nat.le_trans (Nat.add_le_add h1 h2) (Nat.le_of_eq ?_)
   generalize 5*z+9=q
   generalize 2*z+1=r
   generalize h*z=x
   rw [Nat.add_mul,Nat.mul_add]
   congr 1
   ·rw [Nat.mul_left_comm x 2,<-Nat.mul_assoc 2,Nat.mul_left_comm (2*x) n,Nat.mul_assoc 2,Nat.mul_left_comm n 2,Nat.mul_left_comm n x]<;>omega
   ·rw [Nat.mul_left_comm]
def xx (pre:List Int):List Int->List (List Int×Int)
 | []=>[]
 | c::r=>((CZ pre).map fun v=>(v,c))++xx (pre++[c]) r
theorem A9:∀ (r pre:List Int),2*(xx pre r).length=r.length*(2*pre.length+r.length+1)
 | [],_=>by simp [xx]
 | c::r,pre=>by
  have:=A9 r (pre++[c])
  rw [xx,List.length_append,List.length_map,vU,List.length_cons,Nat.mul_add,this,List.length_append]
  simp only [List.length_cons,List.length_nil,Nat.zero_add]
  generalize r.length=n
  generalize pre.length=m
  rw [show 2*(m+1)+n+1=(2*m+(n+1)+1)+1 from by omega,Nat.mul_add n _ 1,Nat.add_mul n 1]
  omega
theorem A_ {v:List Int} {c:Int}:∀ (a b pre:List Int),v <:+ pre++a->(v,c)∈xx pre (a++c::b)
 | [],b,pre,h=>by
  rw [List.append_nil] at h
  exact List.mem_append_left _ (List.mem_map.2 ⟨v,rC h,rfl⟩)
 | d::a,b,pre,h=>by
  refine List.mem_append_right _ (A_ a b (pre++[d]) ?_)
  simpa using h
def uE (L:List Int):List (List Int×Int):=xx [] L
theorem LA {L:List Int} (h:L.length<=60):(uE L).length<=1830:=by
 have:=A9 L []
 simp only [List.length_nil,Nat.mul_zero,Nat.zero_add] at this
 have h2:L.length*(L.length+1)<=60*61:=Nat.mul_le_mul h (by omega)
 unfold uE
 omega
theorem LB {L a b v w:List Int} {c:Int} (e:L=a++c::b) (hw:w <:+ a) (hv:v <:+ w):(v,c)∈uE L:=by
 rw [e];exact A_ a b [] (by simpa using hv.trans hw)
end Go.Proofs.YtfolanohokflkaaGreatDoor
namespace Go.Proofs.YtfolanohokflkaaGreatDoor
open Tm (eps)
theorem abK {t:Tm} (h:bI t=false):hF true Option.none t=hF false Option.none t:=by cases t<;>first | rfl | cases h
theorem abL (t:Tm):hF false Option.none t<=hF true Option.none t+1:=by
 cases t with
 | chain a b=>simp only [hF];simp
 | _=>exact Nat.le_succ _
theorem abM (t:Tm):hF true Option.none t<=hF false Option.none t:=by
 cases t with
 | chain a b=>simp only [hF];simp
 | _=>exact Nat.le_refl _
theorem YX (k:Bool) (t:Tm):hF false (some k) t<=hF false Option.none t:=by
 cases t with
 | aT k' a b=>simp only [hF];split<;>simp
 | _=>exact Nat.le_refl _
theorem Xi {k:Bool} {t:Tm} (h:dE k t=true):hF false (some k) t=hF false Option.none t:=by
 cases t with
 | aT k' a b=>
  have:k'≠k:=by simpa [dE] using h
  simp [hF,Ne.symm this]
 | _=>rfl
theorem Tt {k:Bool} {m:Tm}:∀ (t:Tm),m∈memT k t->dE k m=true->hF false Option.none m<=hF false (some k) t
 | t,h,hm=>by
  rcases iU k t with ⟨a,b,rfl⟩ | hn
  ·rw [h_] at h
   simp only [hF,if_true,Nat.add_zero]
   rcases List.mem_cons.1 h with rfl | h
   ·exact Nat.le_max_left _ _
   ·exact Nat.le_trans (Tt b h hm) (Nat.le_max_right _ _)
  ·rw [bq hn] at h
   have:m=t:=by simpa using h
   subst this
   rw [Xi hn];exact Nat.le_refl _
theorem Qf:∀ (u z:Tm),bH (au u z)<=bH u+bH z+1:=by
 intro u
 induction u with
 | chain a b iha ihb=>
  intro z
  have h1:=iha (au b z)
  have h2:=ihb z
  rw [au]
  split
  ·simp only [bH];omega
  ·split
   ·simp only [bH];omega
   ·simp only [bH];omega
 | _=>
  intro z
  simp only [au]
  repeat' split
  all_goals simp only [bH]
  all_goals omega
theorem Qg {n:Nat}:∀ (u z:Tm),Cn u->hF true Option.none u<=n->hF true Option.none z<=n->hF true Option.none (au u z)<=n:=by
 intro u
 induction u with
 | chain a b iha ihb=>
  intro z hu h1 h2
  simp only [hF,if_true,Nat.add_zero] at h1
  have ha:hF true Option.none a<=n:=by rw [abK hu.2.2.1];omega
  have hb:hF true Option.none b<=n:=by omega
  have h3:=ihb z hu.2.1 hb h2
  have h4:=iha _ hu.1 ha h3
  rw [au]
  split
  ·simp [hF]
  ·split
   ·simp only [hF,if_true,Nat.add_zero];omega
   ·exact h4
 | _=>
  intro z _ h1 h2
  simp only [au]
  simp only [hF] at h1
  repeat' split
  all_goals try simp only [hF,if_true,Nat.add_zero] at *
  all_goals omega
theorem FC:∀ {l:List Tm},l≠[]->bH (kC l)+1<=bB (l.map fun t=>bH t+1)
 | [],h=>absurd rfl h
 | [a],_=>by simp [kC,ai,bB]
 | a::b::l,_=>by
  have ih:=FC (l:=b::l) (by simp)
  have h1:=Qf a (kC (b::l))
  rw [List.map_cons,bB]
  show bH (au a (kC (b::l)))+1<=_
  omega
theorem Tu {n:Nat}:∀ {l:List Tm},(∀ t∈l,Cn t)->(∀ t∈l,hF false Option.none t<=n)->hF true Option.none (kC l)<=n
 | [],_,_=>by simp [kC,hF]
 | a::l,hc,h=>Qg a (kC l) (hc a (List.mem_cons_self ..)) (Nat.le_trans (abM a) (h a (List.mem_cons_self ..))) (Tu (fun t ht=>hc t (List.mem_cons_of_mem _ ht)) fun t ht=>h t (List.mem_cons_of_mem _ ht))
theorem LC {n:Nat} {l:List Tm} (hc:∀ t∈l,Cn t) (h:∀ t∈l,hF false Option.none t<=n):hF false Option.none (kC l)<=n+1:=by
 have:=abL (kC l)
 have:=Tu hc h
 omega
theorem Ny (a:Tm):bH (gZ a)<=bH a+1:=by
 unfold gZ
 split
 ·simp [bH]
 ·cases a<;>simp [bH]
theorem Xj (a:Tm):hF false Option.none (gZ a)<=hF false Option.none a+1:=by
 unfold gZ
 split
 ·simp [hF]
 ·cases a<;>simp [hF]
theorem Z5 (a:Tm):bH (jF a)<=bH a+1:=by cases a<;>simp [jF,bH]<;>omega
theorem Z6 (a:Tm):hF false Option.none (jF a)<=hF false Option.none a+1:=by
 cases a with
 | not x=>simp only [jF,hF];omega
 | _=>simp [jF,hF]
theorem Tv (k:Bool) (t:Tm):bB ((memT k t).map fun m=>bH m+1)=bH t+1:=by
 induction t with
 | aT k' a b _ ih=>
  by_cases e:k'=k
  ·subst e
   rw [h_,List.map_cons,bB,ih]
   simp only [bH];omega
  ·rw [memT,if_neg e];simp [bB]
 | _=>simp [memT,bB]
theorem Nz (k:Bool):∀ {l:List Tm},l≠[]->bH (gM k l)+1=bB (l.map fun m=>bH m+1)
 | [],h=>absurd rfl h
 | [a],_=>by simp [gM,bB]
 | a::b::l,_=>by
  have ih:=Nz k (l:=b::l) (by simp)
  rw [iV k a (by simp),List.map_cons,bB,<-ih]
  simp only [bH];omega
theorem FD (k:Bool):∀ l:List Tm,bB ((l.flatMap (memT k)).map fun m=>bH m+1)=bB (l.map fun m=>bH m+1)
 | []=>rfl
 | a::l=>by rw [List.flatMap_cons,List.map_append,kK,Tv,FD k l,List.map_cons,bB]
theorem FE {α:Type} [DecidableEq α] (f:α->Nat):∀ {l m:List α},l.Nodup->(∀ x∈l,x∈m)->bB (l.map f)<=bB (m.map f)
 | [],_,_,_=>Nat.zero_le _
 | a::l,m,hn,hs=>by
  have hn':=List.nodup_cons.1 hn
  have ha:=hs a (List.mem_cons_self ..)
  have ih:=FE f (l:=l) (m:=m.erase a) hn'.2 fun x hx=>by
   have hne:x≠a:=by rintro rfl;exact hn'.1 hx
   exact (List.mem_erase_of_ne hne).2 (hs x (List.mem_cons_of_mem _ hx))
  have e:∀ m:List α,a∈m->bB (m.map f)=f a+bB ((m.erase a).map f):=by
   intro m
   induction m with
   | nil=>intro h;cases h
   | cons b m ih=>
    intro h
    rw [List.erase_cons]
    split
    ·rename_i q
     rw [eq_of_beq q];rfl
    ·rename_i q
     have:a∈m:=by
      rcases List.mem_cons.1 h with e | h
      ·exact absurd (by rw [e];simp) q
      ·exact h
     rw [List.map_cons,bB,ih this,List.map_cons,bB];omega
  rw [List.map_cons,bB,e m ha]
  omega
theorem IK {k:Bool} {l:List Tm} (hl:∀ t∈l,Cn t) (h2:2<=l.length):bH (aj k l)+1<=bB (l.map fun m=>bH m+1):=by
 have hbig:∀ l:List Tm,l.length<=bB (l.map fun m=>bH m+1):=fun l=>by
  induction l with
  | nil=>simp [bB]
  | cons a l ih=>rw [List.map_cons,bB,List.length_cons];omega
 have htr:∀ t:Tm,cu t=true->bH t+1<=bB (l.map fun m=>bH m+1):=fun t ht=>by
  have:=hbig l
  have:bH t<=1:=by
   cases t with
   | not a=>cases a with
    | set s=>cases s<;>simp [bH]
    | _=>simp [cu] at ht
   | set s=>simp [bH]
   | eps=>simp [bH]
   | _=>simp [cu] at ht
  omega
 have hok:∀ t∈l.flatMap (memT k),fZ t:=jL hl
 rw [<-FD k]
 rw [<-FD k] at htr
 generalize hF:l.flatMap (memT k)=F at *
 have acG:∀ L:List Tm,L≠[]->L.Nodup->(∀ m∈L,m∈aV k F)->bH (gM k L)+1<=bB (F.map fun m=>bH m+1):=by
  intro L hne hn hs
  rw [Nz k hne]
  cases hf:fK k (F.filterMap aP) with
  | none=>
   refine FE _ hn fun x hx=>?_
   rcases aM.1 (hs x hx) with ⟨h,_⟩ | ⟨s,h,_⟩
   ·exact h
   ·rw [hf] at h;cases h
  | some s=>
   obtain ⟨s0,hs0⟩:=vS hf
   have e:L.map (fun m=>bH m+1)=(L.map fun m=>if m=.set s then .set s0 else m).map fun m=>bH m+1:=by
    rw [List.map_map]
    refine List.map_congr_left fun m _=>?_
    simp only [Function.comp]
    split
    ·rename_i q;rw [q];rfl
    ·rfl
   have hcase:∀ x∈L,x=.set s\/(x∈F/\aP x=Option.none):=fun x hx=>by
    rcases aM.1 (hs x hx) with h | ⟨s',h,rfl⟩
    ·exact .inr h
    ·rw [hf] at h;cases h;exact .inl rfl
   rw [e]
   refine FE _ ?_ fun x hx=>?_
   ·rw [List.nodup_iff_pairwise_ne,List.pairwise_map]
    refine List.Pairwise.imp_of_mem (fun {a b} ha hb hab=>?_) hn
    rcases hcase a ha with rfl | ⟨ha1,ha2⟩
    ·rcases hcase b hb with rfl | ⟨hb1,hb2⟩
     ·exact absurd rfl hab
     ·rw [if_pos rfl,if_neg (by rintro rfl;cases hb2)]
      rintro rfl;cases hb2
    ·rw [if_neg (by rintro rfl;cases ha2)]
     rcases hcase b hb with rfl | ⟨hb1,hb2⟩
     ·rw [if_pos rfl];rintro rfl;cases ha2
     ·rw [if_neg (by rintro rfl;cases hb2)];exact hab
   ·obtain ⟨y,hy,rfl⟩:=List.mem_map.1 hx
    rcases hcase y hy with rfl | ⟨hy1,hy2⟩
    ·rw [if_pos rfl];exact hs0
    ·rw [if_neg (by rintro rfl;cases hy2)];exact hy1
 unfold aj oG
 rw [hF]
 split
 ·exact htr _ (xu k)
 split
 ·exact htr _ (sD k)
 ·rename_i hne
  refine acG _ hne ((wZ (nk hok).2).filter _) fun m hm=>(List.mem_filter.1 hm).1
theorem NA {k:Bool} {n:Nat}:∀ {l:List Tm},(∀ t∈l,hF false Option.none t<=n)->hF false (some k) (gM k l)<=n
 | [],_=>by simp [gM,hF]
 | [a],h=>Nat.le_trans (YX k a) (h a (List.mem_cons_self ..))
 | a::b::l,h=>by
  have ih:=NA (k:=k) (l:=b::l) fun t ht=>h t (List.mem_cons_of_mem _ ht)
  have:=h a (List.mem_cons_self ..)
  rw [iV k a (by simp)]
  simp only [hF,if_true,Nat.add_zero]
  omega
theorem Xk (k:Bool) (t:Tm):hF false Option.none t<=hF false (some k) t+1:=by
 cases t with
 | aT k' a b=>
  by_cases e:k'=k
  ·subst e;simp only [hF];simp
  ·simp only [hF];simp [Ne.symm e]
 | _=>exact Nat.le_succ _
theorem IL {k:Bool} {n:Nat} {l:List Tm} (hl:∀ t∈l,Cn t) (h:∀ t∈l,hF false Option.none t<=n):hF false Option.none (aj k l)<=n+1:=by
 unfold aj oG
 split
 ·cases k<;>simp [eu,hF]
 split
 ·cases k<;>simp [bE,hF]
 ·refine Nat.le_trans (Xk k _) (Nat.succ_le_succ (NA fun t ht=>?_))
  rcases aM.1 (List.mem_filter.1 ht).1 with ⟨q,_⟩ | ⟨s,_,rfl⟩
  ·obtain ⟨d,hd,hm⟩:=List.mem_flatMap.1 q
   exact Nat.le_trans (Tt d hm ((hl d hd).members t hm).2) (Nat.le_trans (YX k d) (h d hd))
  ·simp [hF]
end Go.Proofs.YtfolanohokflkaaGreatDoor
namespace Go.Proofs.YtfolanohokflkaaGreatDoor
open Tm (eps)
def NB (k s:Nat) (t:Tm):Prop:=∃ u L q,bH t+3<=s*(3+u)/\hF false Option.none t<=L+q/\2 ^ q<=s/\L+3*u<=k
theorem zx {k s:Nat} {t:Tm} (hs:1<=s) (h1:bH t=0) (h2:hF false Option.none t=0):NB k s t:=
 ⟨0,0,0,by omega,by omega,by simpa using hs,by omega⟩
theorem Z7 {k s:Nat} {t:Tm} (h:NB k s t):NB (k+1) (s+1) (jF t):=by
 obtain ⟨u,L,q,h1,h2,h3,h4⟩:=h
 have:=Z5 t
 have:=Z6 t
 exact ⟨u,L+1,q,by rw [Nat.add_mul];omega,by omega,by omega,by omega⟩
def WtL (k s:Nat) (l:List Tm):Prop:=∃ u L q,bB (l.map fun t=>bH t+3)<=s*(3+u)/\(∀ t∈l,hF false Option.none t<=L+q)/\2 ^ q<=s/\L+3*u<=k
theorem Xl {k s:Nat} {t:Tm} (h:NB k s t):WtL k s [t]:=by
 obtain ⟨u,L,q,h1,h2,h3,h4⟩:=h
 exact ⟨u,L,q,by simpa [bB] using h1,by simpa using h2,h3,h4⟩
theorem Tw {s u v:Nat} (h:u<=v):s*(3+u)<=s*(3+v):=Nat.mul_le_mul_left _ (by omega)
theorem Tx {k k' s s':Nat} {l:List Tm} {t:Tm} (h:WtL k s l) (h':NB k' s' t):WtL (k+k') (s+s') (l++[t]):=by
 obtain ⟨u,L,q,h1,h2,h3,h4⟩:=h
 obtain ⟨u',L',q',h1',h2',h3',h4'⟩:=h'
 have a1:=Tw (s:=s) (Nat.le_max_left u u')
 have a2:=Tw (s:=s') (Nat.le_max_right u u')
 refine ⟨max u u',max L L',max q q',?_,?_,?_,by omega⟩
 ·rw [List.map_append,kK,Nat.add_mul]
  simp only [List.map_cons,List.map_nil,bB,Nat.add_zero]
  omega
 ·intro x hx
  rcases List.mem_append.1 hx with hx | hx
  ·have:=h2 x hx;omega
  ·have:x=t:=by simpa using hx
   subst this;omega
 ·rcases Nat.le_total q q' with e | e
  ·rw [Nat.max_eq_right e];omega
  ·rw [Nat.max_eq_left e];omega
theorem Ed:∀ l:List Tm,bB (l.map fun t=>bH t+3)=bB (l.map fun t=>bH t+1)+2*l.length
 | []=>rfl
 | a::l=>by rw [List.map_cons,bB,Ed l,List.map_cons,bB,List.length_cons];omega
theorem NC {k s n:Nat} {l:List Tm} {t:Tm} (h:WtL k s l) (hn:l.length=n+2) (h1:bH t+1<=bB (l.map fun t=>bH t+1)) (h2:∀ m,(∀ t∈l,hF false Option.none t<=m)->hF false Option.none t<=m+1):NB (k+1) (s+(n+1)) t:=by
 obtain ⟨u,L,q,g1,g2,g3,g4⟩:=h
 have:=h2 _ g2
 rw [Ed] at g1
 refine ⟨u,L+1,q,?_,by omega,by omega,by omega⟩
 rw [Nat.add_mul]
 have:(n+1)*3<=(n+1)*(3+u):=Nat.mul_le_mul_left _ (by omega)
 omega
def vX (d:Nat) (o:iW):Prop:=match o.2.1 with
 | Option.none=>(o.2.2=2/\o.1<=1/\1<=d)\/(o.2.2=(o.1:Int)+1/\4<=d)
 | some m=>(o.1=0/\m=1/\o.2.2=2/\1<=d)\/(o.1<=m/\o.2.2=max (m:Int) 1/\3<=d/\(o.1<m->5<=d))
theorem IM (a b:List Tm):kC (a++b)=a.foldr au (kC b):=by simp [kC,List.foldr_append]
theorem FH (n:Nat) (t:Tm):bB ((List.replicate n t).map fun t=>bH t+1)=n*(bH t+1):=by
 induction n with
 | zero=>simp [bB]
 | succ n ih=>rw [List.replicate_succ,List.map_cons,bB,ih,Nat.add_mul (n) 1];omega
theorem IP (t:Tm) (n:Nat):nX t n Option.none=kC (List.replicate n t++[gZ t]):=by
 rw [IM];simp [nX,kC,ai]
theorem IQ (t:Tm) (n m:Nat):nX t n (some m)=kC (List.replicate n t++List.replicate (m - n) (o8 t)):=by
 rw [IM];rfl
theorem Ty {t:Tm} (ht:Cn t):bH (o8 t)<=bH t+1:=by
 have:=IK (k:=false) (l:=[eps,t]) (by simpa using ⟨trivial,ht⟩) (by simp)
 simp only [List.map_cons,List.map_nil,bB,bH] at this
 unfold o8
 omega
theorem Z8 {t:Tm} (ht:Cn t):hF false Option.none (o8 t)<=hF false Option.none t+1:=IL (by simpa using ⟨trivial,ht⟩) (by simp [hF])
theorem vY {q s:Nat} (h:2 ^ q<=s) {f:Nat} (hf:1<=f):2 ^ q<=s*f:=Nat.le_trans h (Nat.le_mul_of_pos_right _ hf)
theorem Z9 {k s f d:Nat} {t:Tm} {o:iW} (ht:Cn t) (h:NB k s t) (hs:1<=s) (hf:o.2.2=(f:Int)) (ho:vX d o):NB (k+d) (s*f) (nX t o.1 o.2.1):=by
 obtain ⟨n,om,ff⟩:=o
 obtain ⟨u,L,q,h1,h2,h3,h4⟩:=h
 dsimp only at hf ⊢
 subst hf
 have hst:=Ng ht
 have hop:=Sv ht
 have e1:=Ny t
 have e2:=Xj t
 have e3:=Ty ht
 have e4:=Z8 ht
 cases om with
 | none=>
  dsimp only [vX] at ho
  have hz:=FC (l:=List.replicate n t++[gZ t]) (by simp)
  have hh:=LC (n:=hF false Option.none t+1) (l:=List.replicate n t++[gZ t]) (by
   intro x hx
   rcases List.mem_append.1 hx with hx | hx
   ·rw [(List.mem_replicate.1 hx).2];exact ht
   ·simp at hx;subst hx;exact hst) (by
   intro x hx
   rcases List.mem_append.1 hx with hx | hx
   ·rw [(List.mem_replicate.1 hx).2];omega
   ·simp at hx;subst hx;exact e2)
  rw [<-IP] at hz hh
  rw [List.map_append,kK,FH] at hz
  simp only [List.map_cons,List.map_nil,bB,Nat.add_zero] at hz
  rcases ho with ⟨hf,hn,hd⟩ | ⟨hf,hd⟩
  ·have hf2:f=2:=by omega
   subst hf2
   rcases Nat.lt_or_ge 0 n with hn0 | hn0
   ·have:n=1:=by omega
    subst this
    refine ⟨u,L+1,q+1,?_,by omega,by rw [Nat.pow_succ];exact Nat.mul_le_mul_right _ h3,by omega⟩
    rw [Nat.mul_assoc,Nat.mul_comm 2,<-Nat.mul_assoc]
    omega
   ·have:n=0:=by omega
    subst this
    rw [show nX t 0 Option.none=gZ t from by simp [nX]] at *
    refine ⟨u,L+1,q,?_,by omega,vY h3 (by omega),by omega⟩
    rw [Nat.mul_assoc,Nat.mul_comm 2,<-Nat.mul_assoc]
    omega
  ·have hf2:f=n+1:=by omega
   subst hf2
   rcases Nat.lt_or_ge 0 n with hn0 | hn0
   ·refine ⟨u,L+2,q,?_,by omega,vY h3 (by omega),by omega⟩
    have a1:(bH t+3)*(n+1)<=s*(3+u)*(n+1):=Nat.mul_le_mul_right _ h1
    rw [Nat.mul_assoc,Nat.mul_comm (n+1),<-Nat.mul_assoc]
    rw [Nat.add_mul,Nat.mul_add] at a1
    rw [Nat.mul_add,Nat.mul_comm n] at hz
    omega
   ·have:n=0:=by omega
    subst this
    rw [show nX t 0 Option.none=gZ t from by simp [nX]] at *
    refine ⟨u+1,L+1,q,?_,by omega,vY h3 (by omega),by omega⟩
    rw [show 3+(u+1)=(3+u)+1 from by omega,Nat.zero_add,Nat.mul_one,Nat.mul_add]
    omega
 | some m=>
  dsimp only [vX] at ho
  rcases ho with ⟨rfl,rfl,hf,hd⟩ | ⟨hnm,hf,hd,hd5⟩
  ·have hf2:f=2:=by omega
   subst hf2
   rw [show nX t 0 (some 1)=o8 t from by simp [nX,kC,ai]]
   refine ⟨u,L+1,q,?_,by omega,vY h3 (by omega),by omega⟩
   rw [Nat.mul_assoc,Nat.mul_comm 2,<-Nat.mul_assoc]
   omega
  ·rcases Nat.lt_or_ge 1 m with hm | hm
   ·have hf2:f=m:=by omega
    subst hf2
    have hz:=FC (l:=List.replicate n t++List.replicate (f - n) (o8 t)) (by
     intro e
     have:=congrArg List.length e
     simp at this
     omega)
    have hh:=LC (n:=hF false Option.none t+1) (l:=List.replicate n t++List.replicate (f - n) (o8 t)) (by
     intro x hx
     rcases List.mem_append.1 hx with hx | hx
     ·rw [(List.mem_replicate.1 hx).2];exact ht
     ·rw [(List.mem_replicate.1 hx).2];exact hop) (by
     intro x hx
     rcases List.mem_append.1 hx with hx | hx
     ·rw [(List.mem_replicate.1 hx).2];omega
     ·rw [(List.mem_replicate.1 hx).2];exact e4)
    rw [<-IQ] at hz hh
    rw [List.map_append,kK,FH,FH] at hz
    refine ⟨u,L+2,q,?_,by omega,vY h3 (by omega),by omega⟩
    have a1:(bH t+3)*f<=s*(3+u)*f:=Nat.mul_le_mul_right _ h1
    rw [Nat.mul_assoc,Nat.mul_comm f,<-Nat.mul_assoc]
    have a2:(f - n)*(bH (o8 t)+1)<=(f - n)*(bH t+2):=Nat.mul_le_mul_left _ (by omega)
    have a3:n*(bH t+1)<=n*(bH t+2):=Nat.mul_le_mul_left _ (by omega)
    have a4:n*(bH t+2)+(f - n)*(bH t+2)=f*(bH t+2):=by rw [<-Nat.add_mul];congr 1;omega
    rw [Nat.mul_comm f,Nat.add_mul] at a4
    rw [Nat.add_mul] at a1
    omega
   ·have hf2:f=1:=by omega
    subst hf2
    rw [Nat.mul_one]
    rcases Nat.lt_or_ge n m with hlt | hge
    ·have e0:n=0:=by omega
     have e1:m=1:=by omega
     subst e0 e1
     rw [show nX t 0 (some 1)=o8 t from by simp [nX,kC,ai]]
     have:=hd5 hlt
     refine ⟨u+1,L+1,q,?_,by omega,h3,by omega⟩
     rw [show 3+(u+1)=(3+u)+1 from by omega,Nat.mul_add]
     omega
    ·have e0:n=m:=by omega
     subst e0
     rcases Nat.lt_or_ge 0 n with hn0 | hn0
     ·have:n=1:=by omega
      subst this
      rw [show nX t 1 (some 1)=t from by simp [nX,kC,ai]]
      exact ⟨u,L,q,h1,h2,h3,by omega⟩
     ·have:n=0:=by omega
      subst this
      rw [show nX t 0 (some 0)=eps from by simp [nX,kC]]
      exact zx hs rfl rfl
end Go.Proofs.YtfolanohokflkaaGreatDoor
namespace Go.Proofs.YtfolanohokflkaaGreatDoor
open Tm (eps)
theorem eB {l:List Sy} (h:0<=hd l):l.tail.length+1=l.length:=by
 cases l with
 | nil=>exact absurd h (by decide)
 | cons x l=>rfl
theorem cZ (l:List Sy):l.tail.length<=l.length:=by simp
theorem ND:∀ (f:Nat) (v:Int) (k:Nat) (l:List Sy),(mi f v k l).2.2.length<=l.length
 | 0,_,_,_=>Nat.le_refl _
 | f+1,v,k,l=>by
  rw [mi];split
  ·exact Nat.le_trans (ND f _ _ _) (cZ l)
  ·exact Nat.le_refl _
theorem Tz {n:Nat} {l l':List Sy} {c:Int} (h:ma n l=.ok (c,l')):l'.length<=l.length:=by
 unfold ma kg at h
 repeat' split at h
 all_goals first
  | (simp only [bad] at h;cases h;done)
  | (cases h;exact Nat.le_trans (cZ _) (Nat.le_trans (ND _ _ _ _) (cZ l)))
theorem uF {n:Nat} {l l':List Sy} {c:Int} (h:dD n l=.ok (c,l')):l'.length<=l.length:=by
 unfold dD at h
 split at h
 ·exact Nat.le_trans (Tz h) (cZ l)
 ·repeat' split at h
  all_goals first
   | (simp only [bad] at h;cases h;done)
   | (cases h;exact cZ l)
theorem xy {n:Nat} {l l':List Sy} {c:Int} (h:eD n l=.ok (c,l')):l'.length<=l.length:=by
 unfold eD at h
 split at h
 ·exact Nat.le_trans (uF h) (cZ l)
 ·split at h
  ·simp only [bad] at h;cases h
  ·cases h;exact cZ l
theorem TA {n:Nat} {l l':List Sy} {s:ah} (h:jq n l=.ok (s,l')):l'.length<=l.length:=by
 unfold jq at h
 split at h
 ·cases h;exact Nat.le_trans (cZ _) (cZ l)
 ·split at h
  ·cases h
  ·rename_i a l1 e
   have h1:=xy e
   split at h
   ·split at h
    ·cases h
    ·rename_i b l2 e2
     have h2:=xy e2
     have h3:=cZ l1
     split at h
     ·simp only [bad] at h;cases h
     ·cases h;omega
   ·cases h;exact h1
theorem oI {n:Nat}:∀ (f:Nat) {s s':ah} {l l':List Sy},bA n f s l=.ok (s',l')->l'.length<=l.length
 | 0,_,_,_,_,h=>by simp only [bA,bad] at h;cases h
 | f+1,s,s',l,l',h=>by
  rw [bA] at h
  split at h
  ·cases h;exact cZ l
  ·split at h
   ·cases h
   ·rename_i p l1 e
    have:=TA e
    have:=oI f h
    omega
theorem Qh {n:Nat} {s:ah} {l l':List Sy} (h:iB n l=.ok (s,l')):l'.length<=l.length:=by
 unfold iB at h
 split at h
 ·unfold Ak at h
  split at h
  ·cases h
  ·rename_i s1 l1 e
   have:=oI _ e
   have:=cZ l
   cases h;omega
 ·exact oI _ h
theorem IU {n:Nat} {s:ah} {l l':List Sy} (h:dV n l=.ok (s,l')):l'.length+1<=l.length:=by
 unfold dV at h
 split at h
 ·rename_i q
  have:=Qh h
  have:=eB (l:=l) (by omega)
  omega
 split at h
 ·rename_i q
  have h0:=eB (l:=l) (by omega)
  split at h
  ·cases h
   have:=cZ l.tail
   omega
  ·unfold PN at h
   split at h
   ·cases h
   ·rename_i c l1 e
    have:=uF e
    cases h;omega
 split at h
 ·rename_i q
  have h0:=eB (l:=l) (by omega)
  cases h;omega
 split at h
 ·simp only [bad] at h;cases h
 ·rename_i q
  have h0:=eB (l:=l) (by omega)
  cases h;omega
theorem NF {n:Nat} {least v:Int} {l l':List Sy} (h:bL n least l=.ok (v,l')):0<=v/\least<=v/\l'.length+1<=l.length:=by
 unfold bL at h
 split at h
 ·rename_i hdig
  have hd0:48<=hd l/\hd l<=57:=by simpa [fF] using hdig
  have h0:=eB (l:=l) (by omega)
  split at h
  ·simp only [bad] at h;cases h
  ·rename_i hr
   simp only [Except.ok.injEq] at h
   have e1:(iL l).1=v:=by rw [h]
   have e2:(iL l).2=l':=by rw [h]
   have hl:¬ (iL l).1<least:=fun q=>hr (.inl q)
   rw [e1] at hl
   refine ⟨?_,by omega,?_⟩
   ·rw [<-e1];unfold iL;split
    ·rename_i q
     have:48<=hd l.tail/\hd l.tail<=57:=by simpa [fF] using q.2
     show 0<=10*(hd l - 48)+(hd l.tail - 48)
     omega
    ·show 0<=hd l - 48
     omega
   ·rw [<-e2];unfold iL
    have:=cZ l.tail
    split
    ·show l.tail.tail.length+1<=_;omega
    ·show l.tail.length+1<=_;omega
 ·simp only [bad] at h;cases h
theorem IV {n:Nat} {m o:iW} {l l':List Sy} (h:fC n m l=.ok (o,l')):o=m/\l'.length+1<=l.length:=by
 unfold fC at h
 split at h
 ·rename_i q
  have:=eB (l:=l) (by omega)
  cases h;exact ⟨rfl,by omega⟩
 ·simp only [bad] at h;cases h
theorem YY {m:Int} (h:0<=m):j5 m=max ((m.toNat:Nat):Int) 1:=by
 unfold j5;split<;>omega
theorem xA {n:Nat} {o:iW} {l l':List Sy} (hr:jV (hd l)=true) (h:dX n l=.ok (o,l')):∃ d,vX d o/\l'.length+d<=l.length/\∃ f:Nat,1<=f/\o.2.2=(f:Int):=by
 have hp:0<=hd l:=by
  unfold jV at hr
  simp at hr
  omega
 have h0:=eB hp
 unfold dX at h
 split at h
 ·unfold gu at h
  split at h
  ·cases h
  ·rename_i a l1 e
   obtain ⟨ha,_,hl1⟩:=NF e
   split at h
   ·rename_i q
    have h1:=eB (l:=l1) (by omega)
    split at h
    ·rename_i q2
     have h2:=eB (l:=l1.tail) (by omega)
     cases h
     refine ⟨4,.inr ⟨?_,Nat.le_refl _⟩,by omega,(a+1).toNat,by omega,?_⟩
     ·show a+1=((a.toNat:Nat):Int)+1;omega
     ·show a+1=(((a+1).toNat:Nat):Int);omega
    ·split at h
     ·cases h
     ·rename_i m l2 e2
      obtain ⟨hm,hm2,hl2⟩:=NF e2
      obtain ⟨rfl,hl3⟩:=IV h
      refine ⟨5,.inr ⟨?_,YY hm,by omega,fun _=>Nat.le_refl _⟩,by omega,(j5 m).toNat,?_,?_⟩
      ·show a.toNat<=m.toNat;omega
      ·unfold j5;split<;>omega
      ·show j5 m=_;have:0<=j5 m:=by unfold j5;split<;>omega
       omega
   ·obtain ⟨rfl,hl3⟩:=IV h
    refine ⟨3,.inr ⟨Nat.le_refl _,YY ha,Nat.le_refl _,fun q=>absurd q (Nat.lt_irrefl _)⟩,by omega,(j5 a).toNat,?_,?_⟩
    ·unfold j5;split<;>omega
    ·show j5 a=_;have:0<=j5 a:=by unfold j5;split<;>omega
     omega
 ·split at h
  ·cases h
   exact ⟨1,.inl ⟨rfl,by simp,Nat.le_refl _⟩,by omega,2,by omega,rfl⟩
  ·split at h
   ·cases h
    exact ⟨1,.inl ⟨rfl,by simp,Nat.le_refl _⟩,by omega,2,by omega,rfl⟩
   ·cases h
    exact ⟨1,.inl ⟨rfl,rfl,rfl,Nat.le_refl _⟩,by omega,2,by omega,rfl⟩
def Gn (k:Nat) (p:Pn):Prop:=1<=p.2/\(p.2<=60->NB k p.2.toNat (eH p.1))
abbrev Z_ (d:Nat) (l:List Sy) (r:bf Pn):Prop:=∀ v l',r=.ok (v,l')->∃ k,l'.length+k+d<=l.length/\Gn k v
abbrev WA (d:Nat) (a:List Sy->bf Pn):Prop:=∀ l,bu l->Z_ d l (a l)
theorem zy {x:Int} (h:dA x<=60):dA x=x:=by unfold dA at *;split<;>simp_all<;>omega
theorem NG {x:Int} (h:1<=x):1<=dA x:=by unfold dA;split<;>omega
theorem FI {n:Nat} {l:List Sy}:Z_ 1 l (kN (dV n l)):=by
 intro v l' h
 unfold kN at h
 split at h
 ·cases h
 ·rename_i s l1 e
  have:=IU e
  cases h
  refine ⟨0,by omega,Int.le_refl _,fun _=>zx (Nat.le_refl _) ?_ ?_⟩<;>rw [eH]<;>rfl
theorem NH {k:Nat} {p:Pn} (h:Gn k p):Gn (k+1) (w_ p):=by
 refine ⟨NG (by have:=h.1;omega),fun hq=>?_⟩
 have e:=zy hq
 show NB _ (dA (p.2+1)).toNat (eH (.not p.1))
 have hq':dA (p.2+1)<=60:=hq
 rw [e] at hq' ⊢
 rw [eH,show (p.2+1).toNat=p.2.toNat+1 from by have:=h.1;omega]
 exact Z7 (h.2 (by omega))
theorem NI {k d f:Nat} {p:Pn} {o:iW} (hc:uw p) (h:Gn k p) (hf:o.2.2=(f:Int)) (hf1:1<=f) (ho:vX d o):Gn (k+d) (Hm p o):=by
 have hp:=h.1
 have e0:p.2*o.2.2=((p.2.toNat*f:Nat):Int):=by rw [hf,Int.natCast_mul,Int.toNat_of_nonneg (by omega)]
 have h1:1<=p.2.toNat*f:=Nat.mul_pos (by omega) (by omega)
 have h2:p.2.toNat<=p.2.toNat*f:=Nat.le_mul_of_pos_right _ hf1
 refine ⟨NG (by rw [e0];omega),fun hq=>?_⟩
 have e:=zy hq
 have hq':dA (p.2*o.2.2)<=60:=hq
 show NB _ (dA (p.2*o.2.2)).toNat (eH (.rep p.1 o.1 o.2.1))
 rw [e,e0] at hq' ⊢
 rw [eH,Int.toNat_natCast]
 exact Z9 (ny hc) (h.2 (by omega)) (by omega) hf ho
theorem NJ {n:Nat}:∀ (f:Nat) {z:Pn} {l:List Sy} {k:Nat},uw z->bu l->Gn k z->∀ v l',iH n f z l=.ok (v,l')->∃ k',l'.length+k'<=l.length+k/\Gn k' v
 | 0,_,_,_,_,_,_,_,_,h=>by simp only [iH,bad] at h;cases h
 | f+1,z,l,k,hz,ha,hw,v,l',h=>by
  rw [iH] at h
  split at h
  ·rename_i hr
   split at h
   ·cases h
   ·rename_i m l1 e
    obtain ⟨d,ho,hd,fa,hf1,hf⟩:=xA hr e
    have ha1:=(oh (n:=n) ha _ _ e).2
    obtain ⟨k',h1,h2⟩:=NJ f (z:=Hm z m) (by show nU (.rep z.1 m.1 m.2.1);rw [nU];exact hz) ha1 (NI hz hw hf hf1 ho) v l' h
    exact ⟨k',by omega,h2⟩
  ·cases h;exact ⟨k,Nat.le_refl _,hw⟩
theorem FJ {n:Nat} {a:List Sy->bf Pn} (ha:fu a) (hw:WA 1 a):∀ (f:Nat) (l:List Sy),bu l->Z_ 1 l (b_ n a f l)
 | 0,_,_=>by intro v l' h;simp only [b_,bad] at h;cases h
 | f+1,l,hl=>by
  intro v l' h
  rw [b_] at h
  split at h
  ·rename_i q
   have h0:=eB (l:=l) (by omega)
   split at h
   ·cases h
   ·rename_i z l1 e
    obtain ⟨k,h1,h2⟩:=FJ ha hw f l.tail hl.tail _ _ e
    cases h
    exact ⟨k+1,by omega,NH h2⟩
  ·split at h
   ·cases h
   ·rename_i z l1 e
    obtain ⟨k,h1,h2⟩:=hw l hl _ _ e
    obtain ⟨hz,hl1⟩:=ha l hl _ _ e
    obtain ⟨k',h3,h4⟩:=NJ _ hz hl1 h2 v l' h
    exact ⟨k',by omega,h4⟩
def VT (k:Nat) (z:List Pn):Prop:=(∀ p∈z,1<=p.2)/\(dI z<=60->WtL k (dI z).toNat (z.map fun p=>eH p.1))
theorem TC:∀ (z:List Pn) (y:Pn),dI (z++[y])=dI z+y.2
 | [],y=>by simp [dI]
 | p::z,y=>by rw [List.cons_append,dI,TC z y,dI];omega
theorem pF:∀ {z:List Pn},(∀ p∈z,1<=p.2)->(z.length:Int)<=dI z
 | [],_=>by simp [dI]
 | p::z,h=>by
  have:=h p (List.mem_cons_self ..)
  have:=pF (z:=z) fun q hq=>h q (List.mem_cons_of_mem _ hq)
  rw [dI,List.length_cons];omega
theorem FK {k:Nat} {y:Pn} (h:Gn k y):VT k [y]:=by
 refine ⟨by simpa using h.1,fun hq=>?_⟩
 simp only [dI,Int.add_zero] at hq ⊢
 exact Xl (h.2 hq)
theorem Ba {k k':Nat} {z:List Pn} {y:Pn} (h:VT k z) (h':Gn k' y):VT (k+k') (z++[y]):=by
 have h0:=pF h.1
 have h1:=h'.1
 refine ⟨fun p hp=>?_,fun hq=>?_⟩
 ·rcases List.mem_append.1 hp with hp | hp
  ·exact h.1 p hp
  ·have:p=y:=by simpa using hp
   subst this;exact h1
 ·rw [TC] at hq ⊢
  rw [show (dI z+y.2).toNat=(dI z).toNat+y.2.toNat from by omega,List.map_append]
  exact Tx (h.2 (by omega)) (h'.2 (by omega))
theorem IW (z:List Pn):vB (z.map Prod.fst)=z.map fun p=>eH p.1:=by rw [qU,List.map_map];rfl
theorem Bc {z:List Pn} (h:∀ p∈z,uw p):∀ t∈z.map (fun p=>eH p.1),Cn t:=fun t ht=>by
 obtain ⟨p,hp,rfl⟩:=List.mem_map.1 ht
 exact ny (h p hp)
theorem IX {k:Nat} {z:List Pn} (hz:∀ p∈z,uw p) (h:VT k z) (hne:z≠[]):Gn (if z.length=1 then k else k+1) (ib z):=by
 match z,hz,h,hne with
 | [],_,_,hne=>exact absurd rfl hne
 | [p],hz,h,_=>
  have:=h.1 p (List.mem_cons_self ..)
  show Gn k p
  refine ⟨this,fun hq=>?_⟩
  have h2:=h.2 (by simpa [dI] using hq)
  obtain ⟨u,L,q,g1,g2,g3,g4⟩:=h2
  simp only [dI,Int.add_zero,List.map_cons,List.map_nil,bB,Nat.add_zero] at g1 g2 g3
  exact ⟨u,L,q,g1,g2 _ (List.mem_cons_self ..),g3,g4⟩
 | p::p'::r,hz,h,_=>
  rw [if_neg (by simp)]
  have h0:=pF h.1
  simp only [List.length_cons] at h0
  have e:ib (p::p'::r)=(.row ((p::p'::r).map Prod.fst),min (((p::p'::r).length:Int) - 1+dI (p::p'::r)) 61):=by simp [ib]
  rw [e]
  refine ⟨?_,fun hq=>?_⟩
  ·show 1<=min (((p::p'::r).length:Int) - 1+dI (p::p'::r)) 61
   simp only [List.length_cons];omega
  ·have hq':min (((p::p'::r).length:Int) - 1+dI (p::p'::r)) 61<=60:=hq
   show NB _ (min (((p::p'::r).length:Int) - 1+dI (p::p'::r)) 61).toNat (eH (.row ((p::p'::r).map Prod.fst)))
   simp only [List.length_cons] at hq'
   rw [show (min (((p::p'::r).length:Int) - 1+dI (p::p'::r)) 61).toNat=(dI (p::p'::r)).toNat+(r.length+1) from by simp only [List.length_cons];omega,eH,IW]
   exact NC (h.2 (by omega)) (by simp) (FC (by simp)) fun m hm=>LC (Bc hz) hm
theorem IY {b:Bool} {k:Nat} {z:List Pn} (hz:∀ p∈z,uw p) (h:VT k z) (hne:z≠[]):Gn (if z.length=1 then k else k+1) (gB b z):=by
 match z,hz,h,hne with
 | [],_,_,hne=>exact absurd rfl hne
 | [p],hz,h,_=>
  have:=h.1 p (List.mem_cons_self ..)
  show Gn k p
  refine ⟨this,fun hq=>?_⟩
  have h2:=h.2 (by simpa [dI] using hq)
  obtain ⟨u,L,q,g1,g2,g3,g4⟩:=h2
  simp only [dI,Int.add_zero,List.map_cons,List.map_nil,bB,Nat.add_zero] at g1 g2 g3
  exact ⟨u,L,q,g1,g2 _ (List.mem_cons_self ..),g3,g4⟩
 | p::p'::r,hz,h,_=>
  rw [if_neg (by simp)]
  have h0:=pF h.1
  simp only [List.length_cons] at h0
  have e:gB b (p::p'::r)=(.aT b ((p::p'::r).map Prod.fst),min (((p::p'::r).length:Int) - 1+dI (p::p'::r)) 61):=rfl
  rw [e]
  refine ⟨?_,fun hq=>?_⟩
  ·show 1<=min (((p::p'::r).length:Int) - 1+dI (p::p'::r)) 61
   simp only [List.length_cons];omega
  ·have hq':min (((p::p'::r).length:Int) - 1+dI (p::p'::r)) 61<=60:=hq
   show NB _ (min (((p::p'::r).length:Int) - 1+dI (p::p'::r)) 61).toNat (eH (.aT b ((p::p'::r).map Prod.fst)))
   simp only [List.length_cons] at hq'
   rw [show (min (((p::p'::r).length:Int) - 1+dI (p::p'::r)) 61).toNat=(dI (p::p'::r)).toNat+(r.length+1) from by simp only [List.length_cons];omega,eH,IW]
   exact NC (h.2 (by omega)) (by simp) (IK (Bc hz) (by simp)) fun m hm=>IL (Bc hz) hm
theorem Be {n:Nat} {a:List Sy->bf Pn} (ha:fu a) (hw:WA 1 a):∀ (f:Nat) {z:List Pn} {l:List Sy} {k:Nat},bu l->VT k z->∀ v l',aW n a f z l=.ok (v,l')->∃ k',l'.length+k'+v.length<=l.length+k+z.length/\VT k' v/\z.length<=v.length
 | 0,_,_,_,_,_,_,_,h=>by simp only [aW,bad] at h;cases h
 | f+1,z,l,k,hl,hz,v,l',h=>by
  rw [aW] at h
  split at h
  ·cases h;exact ⟨k,Nat.le_refl _,hz,Nat.le_refl _⟩
  ·split at h
   ·cases h
   ·rename_i y l1 e
    obtain ⟨k1,h1,h2⟩:=FJ (n:=n) ha hw _ l hl _ _ e
    have hl1:=(jh (n:=n) ha (l.length+1) hl _ _ e).2
    obtain ⟨k',h3,h4,h5⟩:=Be ha hw f hl1 (Ba hz h2) v l' h
    rw [List.length_append] at h3 h5
    simp only [List.length_cons,List.length_nil] at h3 h5
    exact ⟨k',by omega,h4,by omega⟩
theorem aaa {n:Nat} {a:List Sy->bf Pn} (ha:fu a) (hw:WA 1 a):WA 0 (rowP n a):=by
 intro l hl v l' h
 unfold rowP at h
 split at h
 ·cases h
  refine ⟨0,Nat.le_refl _,by decide,fun _=>zx (by decide) ?_ ?_⟩<;>simp [ib,eH,vB,kC,bH,hF]
 ·split at h
  ·cases h
  ·rename_i y l1 e
   obtain ⟨k1,h1,h2⟩:=FJ (n:=n) ha hw _ l hl _ _ e
   obtain ⟨hy,hl1⟩:=jh (n:=n) ha (l.length+1) hl _ _ e
   have g:=mD (n:=n) ha (l1.length+1) (xc hy) hl1
   cases e2:aW n a (l1.length+1) [y] l1 with
   | error x=>rw [e2] at h;cases h
   | ok r=>
    obtain ⟨v2,l2⟩:=r
    rw [e2] at h
    cases h
    obtain ⟨k',h3,h4,h5⟩:=Be ha hw _ hl1 (FK h2) _ _ e2
    simp only [List.length_cons,List.length_nil] at h3 h5
    have hm:=IX (g _ _ e2).1 h4 (by rintro rfl;simp at h5)
    refine ⟨_,?_,hm⟩
    split<;>omega
theorem Bg {n:Nat} {a:List Sy->bf Pn} (ha:fu a) (hw:WA 0 a) (sg:Int) (hsg:0<=sg):∀ (f:Nat) {z:List Pn} {l:List Sy} {k:Nat},bu l->VT k z->∀ v l',aR n a sg f z l=.ok (v,l')->∃ k',l'.length+k'+v.length<=l.length+k+z.length/\VT k' v/\z.length<=v.length
 | 0,_,_,_,_,_,_,_,h=>by simp only [aR,bad] at h;cases h
 | f+1,z,l,k,hl,hz,v,l',h=>by
  rw [aR] at h
  split at h
  ·rename_i q
   have h0:=eB (l:=l) (by omega)
   split at h
   ·cases h
   ·rename_i y l1 e
    obtain ⟨k1,h1,h2⟩:=hw l.tail hl.tail _ _ e
    have hl1:=(ha l.tail hl.tail _ _ e).2
    obtain ⟨k',h3,h4,h5⟩:=Bg ha hw sg hsg f hl1 (Ba hz h2) v l' h
    rw [List.length_append] at h3 h5
    simp only [List.length_cons,List.length_nil] at h3 h5
    exact ⟨k',by omega,h4,by omega⟩
  ·cases h;exact ⟨k,Nat.le_refl _,hz,Nat.le_refl _⟩
theorem TD {n:Nat} {a:List Sy->bf Pn} (ha:fu a) (hw:WA 0 a) (sg:Int) (hsg:0<=sg) (b:Bool):WA 0 (kM n a sg (gB b)):=by
 intro l hl v l' h
 unfold kM at h
 split at h
 ·cases h
 ·rename_i y l1 e
  obtain ⟨k1,h1,h2⟩:=hw l hl _ _ e
  obtain ⟨hy,hl1⟩:=ha l hl _ _ e
  have g:=mE (n:=n) ha sg (l1.length+1) (xc hy) hl1
  cases e2:aR n a sg (l1.length+1) [y] l1 with
  | error x=>rw [e2] at h;cases h
  | ok r=>
   obtain ⟨v2,l2⟩:=r
   rw [e2] at h
   cases h
   obtain ⟨k',h3,h4,h5⟩:=Bg ha hw sg hsg _ hl1 (FK h2) _ _ e2
   simp only [List.length_cons,List.length_nil] at h3 h5
   have hm:=IY (b:=b) (g _ _ e2).1 h4 (by rintro rfl;simp at h5)
   refine ⟨_,?_,hm⟩
   split<;>omega
theorem Ee {n:Nat} {a:List Sy->bf Pn} (ha:fu a) (hw:WA 1 a):WA 0 (bM n a):=
 TD (sj ha) (TD (good_row ha) (aaa ha hw) 38 (by decide) true) 124 (by decide) false
theorem NK {n:Nat}:∀ k:Nat,WA 1 (bF n k)
 | 0=>by
  intro l hl v l' h
  rw [bF] at h
  split at h
  ·simp only [bad] at h;cases h
  ·exact FI v l' h
 | k+1=>by
  intro l hl v l' h
  rw [bF] at h
  split at h
  ·rename_i q
   have h0:=eB (l:=l) (by omega)
   unfold CW at h
   split at h
   ·cases h
   ·rename_i z l1 e
    obtain ⟨k1,h1,h2⟩:=Ee (n:=n) (jX k) (NK k) l.tail hl.tail _ _ e
    split at h
    ·rename_i q2
     have h3:=eB (l:=l1) (by omega)
     cases h
     exact ⟨k1,by omega,h2⟩
    ·simp only [bad] at h;cases h
  ·exact FI v l' h
theorem TE {s:ByteArray} {q:Pt} (h:bn s=.ok q):∃ u L,bH (eH q)+3<=60*(3+u)/\hF false Option.none (eH q)<=L+5/\L+3*u<=60:=by
 unfold bn at h
 split at h
 ·cases h
 ·rename_i hs
  unfold nA at h
  split at h
  ·cases h
  ·rename_i z l e
   obtain ⟨k,h1,h2⟩:=Ee (n:=s.size) (jX 8) (NK 8) _ (kD s 0) _ _ e
   split at h
   ·split at h
    ·cases h
    ·rename_i hz
     cases h
     obtain ⟨u,L,q,g1,g2,g3,g4⟩:=h2.2 (by omega)
     have hlen:(af s 0).length<=s.size - 0:=tQ s _ _
     have acH:z.2.toNat<=60:=by omega
     have hq:q<=5:=by
      rcases Nat.lt_or_ge q 6 with hh | hh
      ·omega
      ·have:2 ^ 6<=2 ^ q:=Nat.pow_le_pow_right (by omega) hh
       omega
     refine ⟨u,L,Nat.le_trans g1 (Nat.mul_le_mul_right _ acH),by omega,by omega⟩
   ·cases h
theorem Qi {s:ByteArray} {q:Pt} (h:bn s=.ok q) {L:List Int} (hL:L.length<=60):vV (Ec (eH q) (uE L))<=600000000000/\bH (eH q)<=1380:=by
 obtain ⟨u,Lv,h1,h2,h3⟩:=TE h
 have hu:u<=20:=by omega
 refine ⟨?_,by omega⟩
 have hb:=Xh (t:=eH q) (X:=uE L) (n:=1830) (h:=65 - 3*u) (z:=60*(3+u)) (LA hL) (by omega) (by omega)
 refine Nat.le_trans hb ?_
 clear hb h1 h2 h3
 have:∀ u:Fin 21,1830*(((65 - 3*u.val)*(60*(3+u.val)))*125+(2*(60*(3+u.val))+1)*68)+1830*((2*((65 - 3*u.val)*(60*(3+u.val)))+(2*(60*(3+u.val))+1))*(5*(60*(3+u.val))+9))<=600000000000:=by decide
 exact this ⟨u,by omega⟩
end Go.Proofs.YtfolanohokflkaaGreatDoor
namespace Go.Proofs.YtfolanohokflkaaGreatDoor
open Tm (eps)
def abN (B:List Int) (c d:Int):Prop:=∀ b∈B,b<=c↔b<=d
def bY (B:List Int) (s:ah):Prop:=∀ c d,aC c=true->aC d=true->abN B c d->dn s c=dn s d
def fQ (B:List Int):Tm->Prop
 | .set l=>bY B l
 | .eps=>True
 | .chain a b=>fQ B a/\fQ B b
 | .star a=>fQ B a
 | .not a=>fQ B a
 | .aT _ a b=>fQ B a/\fQ B b
theorem bY.mono {B B':List Int} {s:ah} (h:bY B s) (hb:∀ b∈B,b∈B'):bY B' s:=fun c d hc hd hs=>h c d hc hd fun b hb'=>hs b (hb b hb')
theorem gG (B:List Int):bY B []:=fun _ _ _ _ _=>rfl
theorem xB {B:List Int} {a b:ah} (ha:Pos a) (hb:Pos b) (h1:bY B a) (h2:bY B b):bY B (qA a b):=fun c d hc hd hs=>by rw [n_ ha hb hc,n_ ha hb hd,h1 c d hc hd hs,h2 c d hc hd hs]
theorem Qj {B:List Int} {a b:ah} (ha:Pos a) (hb:Pos b) (h1:bY B a) (h2:bY B b):bY B (GL a b):=fun c d hc hd hs=>by rw [u_ ha hb hc,u_ ha hb hd,h1 c d hc hd hs,h2 c d hc hd hs]
theorem sI {B:List Int} {a:ah} (ha:Pos a) (h1:bY B a):bY B (fI a):=fun c d hc hd hs=>by rw [kr ha hc,kr ha hd,h1 c d hc hd hs]
theorem TG {B:List Int} (k:Bool) {a b:ah} (ha:Tidy a) (hb:Tidy b) (h1:bY B a) (h2:bY B b):bY B (gK k a b):=by
 cases k
 ·exact xB ha.pos hb.pos h1 h2
 ·exact Qj ha.pos hb.pos h1 h2
theorem opS_tidy' (k:Bool) {a b:ah} (ha:Tidy a) (hb:Tidy b):Tidy (gK k a b):=by
 cases k
 ·exact jf ha.pos hb.pos
 ·exact wS ha.pos hb.pos
theorem jP {B:List Int} {k:Bool}:∀ {l:List ah} {s:ah},(∀ x∈l,Tidy x/\bY B x)->Tidy s->bY B s->Tidy (l.foldl (gK k) s)/\bY B (l.foldl (gK k) s)
 | [],_,_,h1,h2=>⟨h1,h2⟩
 | x::l,s,h,h1,h2=>by
  have hx:=h x (List.mem_cons_self ..)
  exact jP (l:=l) (fun y hy=>h y (List.mem_cons_of_mem _ hy)) (opS_tidy' k h1 hx.1) (TG k h1 hx.1 h2 hx.2)
theorem Xm {B:List Int} {k:Bool}:∀ {t:Tm},fQ B t->∀ m∈memT k t,fQ B m:=by
 intro t
 induction t with
 | aT k' a b _ ih=>
  intro h m hm
  rw [memT] at hm
  split at hm
  ·rcases List.mem_cons.1 hm with rfl | hm
   ·exact h.1
   ·exact ih h.2 m hm
  ·have:m=.aT k' a b:=by simpa using hm
   subst this;exact h
 | _=>
  intro h m hm
  simp [memT] at hm
  subst hm;exact h
theorem IZ {B:List Int} {k:Bool}:∀ {l:List Tm},(∀ m∈l,fQ B m)->fQ B (gM k l)
 | [],_=>gG B
 | [a],h=>h a (List.mem_cons_self ..)
 | a::b::l,h=>by
  rw [iV k a (by simp)]
  exact ⟨h a (List.mem_cons_self ..),IZ fun m hm=>h m (List.mem_cons_of_mem _ hm)⟩
theorem Qk {B:List Int} {k:Bool} {l:List Tm} (hl:∀ t∈l,Cn t) (h:∀ t∈l,fQ B t):fQ B (aj k l):=by
 unfold aj oG
 split
 ·cases k<;>exact gG B
 split
 ·cases k<;>exact gG B
 ·refine IZ fun m hm=>?_
  have hF:∀ m∈l.flatMap (memT k),fQ B m:=fun m hm=>by
   obtain ⟨d,hd,hm⟩:=List.mem_flatMap.1 hm
   exact Xm (h d hd) m hm
  have hok:=jL (k:=k) hl
  rcases aM.1 (List.mem_filter.1 hm).1 with ⟨q,_⟩ | ⟨s,hs,rfl⟩
  ·exact hF m q
  ·cases hq:(l.flatMap (memT k)).filterMap aP with
   | nil=>rw [hq] at hs;cases hs
   | cons a r=>
    rw [hq] at hs
    simp only [fK,Option.some.injEq] at hs
    subst hs
    have hall:∀ x∈a::r,Tidy x/\bY B x:=fun x hx=>⟨hok (.set x) (bW.1 (hq▸hx)),hF (.set x) (bW.1 (hq▸hx))⟩
    exact (jP (fun x hx=>hall x (List.mem_cons_of_mem _ hx)) (hall a (List.mem_cons_self ..)).1 (hall a (List.mem_cons_self ..)).2).2
theorem I1 {a b:Int}:bY [a,b+1] [(a,b)]:=by
 intro c d _ _ hs
 have h1:=hs a (by simp)
 have h2:=hs (b+1) (by simp)
 simp only [dn,List.any_cons,List.any_nil,Bool.or_false]
 rw [Bool.eq_iff_iff]
 simp only [Bool.and_eq_true,decide_eq_true_eq]
 omega
theorem LD {B B':List Int} {x:Int×Int} {l:ah} (h1:bY B [x]) (h2:bY B' l):bY (B++B') (x::l):=by
 intro c d hc hd hs
 have e1:=h1 c d hc hd fun b hb=>hs b (List.mem_append_left _ hb)
 have e2:=h2 c d hc hd fun b hb=>hs b (List.mem_append_right _ hb)
 simp only [dn,List.any_cons,List.any_nil,Bool.or_false] at e1 e2 ⊢
 rw [e1,e2]
def I4:ah->List Int
 | []=>[]
 | x::l=>[x.1,x.2+1]++I4 l
theorem Ef:∀ l:ah,(I4 l).length=2*l.length
 | []=>rfl
 | x::l=>by rw [I4,List.length_append,Ef l];simp;omega
theorem Bh:∀ l:ah,bY (I4 l) l
 | []=>gG _
 | _::l=>LD I1 (Bh l)
def BS (k:Nat) (s:ah):Prop:=∃ B:List Int,B.length<=8*k/\bY B s
theorem BS.cup {k k':Nat} {a b:ah} (ha:Pos a) (hb:Pos b) (h:BS k a) (h':BS k' b):BS (k+k') (qA a b):=by
 obtain ⟨B,l1,h1⟩:=h
 obtain ⟨B',l2,h2⟩:=h'
 exact ⟨B++B',by rw [List.length_append];omega,xB ha hb (h1.mono fun b hb=>List.mem_append_left _ hb) (h2.mono fun b hb=>List.mem_append_right _ hb)⟩
theorem xC {s:ah} (h:s.length<=4):BS 1 s:=⟨I4 s,by rw [Ef];omega,Bh s⟩
theorem NL (l:List Sy):(iA l).length<=4:=by unfold iA;split<;>simp [zg,vD]
theorem TH {n:Nat} {l l':List Sy} {c:Int} (h:eD n l=.ok (c,l')):l'.length+1<=l.length:=by
 unfold eD at h
 split at h
 ·rename_i q
  have:=eB (l:=l) (by omega)
  have:=uF h
  omega
 ·split at h
  ·simp only [bad] at h;cases h
  ·rename_i q
   have:=eB (l:=l) (by omega)
   cases h;omega
theorem Xn {n:Nat} {l l':List Sy} {s:ah} (h:jq n l=.ok (s,l')):l'.length+1<=l.length/\BS 1 s:=by
 unfold jq at h
 split at h
 ·rename_i q
  have q2:hd l=92:=by simp only [isSet,decide_eq_true_eq] at q;exact q.1
  have:=eB (l:=l) (by omega)
  have:=cZ l.tail
  cases h
  exact ⟨by omega,xC (NL l)⟩
 ·split at h
  ·cases h
  ·rename_i a l1 e
   have h1:=TH e
   split at h
   ·split at h
    ·cases h
    ·rename_i b l2 e2
     have h2:=xy e2
     have h3:=cZ l1
     split at h
     ·simp only [bad] at h;cases h
     ·cases h;exact ⟨by omega,xC (by simp)⟩
   ·cases h;exact ⟨h1,xC (by simp)⟩
theorem p8 {n:Nat}:∀ (f:Nat) {s s':ah} {l l':List Sy} {k:Nat},bu l->Tidy s->BS k s->bA n f s l=.ok (s',l')->∃ k',l'.length+k'<=l.length+k/\BS k' s'
 | 0,_,_,_,_,_,_,_,_,h=>by simp only [bA,bad] at h;cases h
 | f+1,s,s',l,l',k,ha,ht,hs,h=>by
  rw [bA] at h
  split at h
  ·cases h
   exact ⟨k,by have:=cZ l;omega,hs⟩
  ·split at h
   ·cases h
   ·rename_i p l1 e
    obtain ⟨h1,h2⟩:=Xn e
    obtain ⟨hp,hl1⟩:=Dw (n:=n) ha _ _ e
    obtain ⟨k',h3,h4⟩:=p8 f hl1 (jf ht.pos hp) (hs.cup ht.pos hp h2) h
    exact ⟨k',by omega,h4⟩
theorem Xo {n:Nat} {s:ah} {l l':List Sy} (ha:bu l) (h:dV n l=.ok (s,l')):∃ k,l'.length+k<=l.length/\BS k s:=by
 have hlen:=IU h
 unfold dV at h
 split at h
 ·unfold iB at h
  have t1:=cZ l
  split at h
  ·unfold Ak at h
   split at h
   ·cases h
   ·rename_i s1 l1 e
    obtain ⟨k,h1,h2⟩:=p8 _ (s:=[]) (k:=0) ha.tail.tail trivial ⟨[],by simp,gG _⟩ e
    have hg:=(kE (n:=n) _ (s:=[]) trivial ha.tail.tail _ _ e).1
    cases h
    obtain ⟨B,b1,b2⟩:=h2
    exact ⟨k,by have:=cZ l.tail;omega,B,b1,sI hg.pos b2⟩
  ·obtain ⟨k,h1,h2⟩:=p8 _ (s:=[]) (k:=0) ha.tail trivial ⟨[],by simp,gG _⟩ h
   exact ⟨k,by omega,h2⟩
 split at h
 ·split at h
  ·cases h
   exact ⟨1,hlen,xC (NL l)⟩
  ·unfold PN at h
   split at h
   ·cases h
   ·cases h
    exact ⟨1,hlen,xC (by simp)⟩
 split at h
 ·cases h
  exact ⟨0,by omega,[],by simp,sI og (gG _)⟩
 split at h
 ·simp only [bad] at h;cases h
 ·cases h
  exact ⟨1,hlen,xC (by simp)⟩
end Go.Proofs.YtfolanohokflkaaGreatDoor
