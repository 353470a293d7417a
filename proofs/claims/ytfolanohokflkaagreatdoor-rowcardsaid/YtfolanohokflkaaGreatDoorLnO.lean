import Derived.Test.YtfolanohokflkaaGreatDoorLnJ
import Derived.Test.YtfolanohokflkaaGreatDoorPSpec
namespace Go.Proofs.YtfolanohokflkaaGreatDoor
open Tm (eps)
def nY (c:Int):Tm->Nat
 | .chain a b=>dZ (aG c a)+(memT false (aG c (.chain a b))).length+2
 | .star a=>dZ (aG c a)
 | .not _=>1
 | .aW k a b=>(memT k (aG c (.aW k a b))).length+2
 | _=>0
def kB (h:Tm):Nat:=(2*bJ h+1)*62+bJ h+6
def kA (t:Tm):Nat:=5*bJ t+9
abbrev Gx:=(Tm×Int)×Nat
def adv (t:Tm) (X:List (List Int×Int)):List Gx:=(D8 t).flatMap fun p=>X.map fun x=>((aI p.1 x.1,x.2),kB p.1)
def adw (t:Tm) (X:List (List Int×Int)):List Gx:=(D8 t).flatMap fun s=>(D8 s.1).flatMap fun p=>X.map fun x=>((au (aI p.1 x.1) p.2,x.2),kA t)
def Ca (t:Tm) (X:List (List Int×Int)):List Gx:=adv t X++adw t X
theorem adx {h:Tm} (hh:Cn h) {v:List Int} {c:Int} (hw:dU (v++[c])) (hl:v.length<=60) (hc:bL (aI h v)=false):nY c (aI h v)<=kB h:=by
 have hb:=fun k=>adt hh hw k
 have hm:(2*bJ h+1)*(v.length+2)<=(2*bJ h+1)*62:=Nat.mul_le_mul_left _ (by omega)
 unfold kB
 cases hx:aI h v with
 | chain a b=>rw [hx] at hc;cases hc
 | set l=>simp [nY]
 | eps=>simp [nY]
 | not a=>simp only [nY];omega
 | aW k a b=>
  have:=hb k
  rw [hx] at this
  simp only [nY]
  omega
 | star a=>
  have ha:a∈dC h:=vk v hh (by rw [hx];exact List.mem_cons_self ..)
  obtain ⟨z',p⟩:=JE _ (Nat.le_refl _) eps ha
  have pa:=p.trans (.star (.here _ _))
  have h1:=spine (pa.cn hh trivial).1 (u:=[c]) (fun d hd=>hw d (List.mem_append_right _ hd))
  have h2:=pa.nz
  have e:aI a [c]=aG c a:=rfl
  rw [e] at h1
  simp only [nY]
  omega
theorem ady {t y:Tm} (ht:Cn t) {w:List Int} {c:Int} (hw:dU (w++[c])) (hl:w.length<=60) {X:List (List Int×Int)} (hX:∀ v,v <:+ w->(v,c)∈X) (h:Ih (aI t w) y):cZ y=true\/∃ k,((y,c),k)∈Ca t X/\nY c y<=k:=by
 rcases E5 _ (Nat.le_refl _) ht w hw.left y h with q | ⟨s,z0,p0,h0,z,v,p,hvw,e,hc,he⟩
 ·exact .inl q
 have hs:=(p0.cn ht trivial).1
 have hh:=(p.cn hs trivial).1
 have Yg:dU (v++[c]):=by
  obtain ⟨q,rfl⟩:=hvw
  intro d hd
  refine hw d ?_
  rw [List.append_assoc]
  exact List.mem_append_right _ hd
 have hvl:v.length<=60:=Nat.le_trans hvw.length_le hl
 by_cases iy:z=eps
 ·subst iy
  rw [ai] at e
  subst e
  have pc:=p0.comp ht p
  exact .inr ⟨kB h0,List.mem_append_left _ (List.mem_flatMap.2 ⟨_,pc.listed,List.mem_map.2 ⟨(v,c),hX v hvw,rfl⟩⟩),adx hh Yg hvl hc⟩
 by_cases uF:aI h0 v=aF
 ·rw [uF,aQ] at e
  subst e
  exact .inl rfl
 have hz:=(p.follow hs trivial (by simp)).1
 have e0:=bE hc uF he hz iy
 refine .inr ⟨kA t,List.mem_append_right _ (List.mem_flatMap.2 ⟨_,p0.listed,List.mem_flatMap.2 ⟨_,p.listed,List.mem_map.2 ⟨(v,c),hX v hvw,by rw [e]⟩⟩⟩),?_⟩
 rw [e,e0]
 have h1:=adu hs Yg p iy hc he uF
 have h2:=spine hh Yg
 rw [jq] at h2
 have h3:=p.nz
 have h4:=p0.nz
 simp only [nY,kA]
 omega
def wV (G:List Gx):Nat:=bC (G.map (·.2))
theorem JH (a b:List Gx):wV (a++b)=wV a+wV b:=by unfold wV;rw [List.map_append,kW]
theorem vo {α:Type} (f:α->Tm×Int) (k:Nat):∀ l:List α,wV (l.map fun x=>(f x,k))=l.length*k
 | []=>by simp [wV,bC]
 | a::l=>by
  have:=vo f k l
  unfold wV at this ⊢
  simp only [List.map_cons,bC,List.length_cons,this,Nat.add_mul,Nat.one_mul]
  omega
theorem ug {α:Type} (f:α->List Gx) (g:α->Nat):∀ l:List α,(∀ a∈l,wV (f a)<=g a)->wV (l.flatMap f)<=bC (l.map g)
 | [],_=>by simp [wV,bC]
 | a::l,h=>by
  have h1:=h a (List.mem_cons_self ..)
  have h2:=ug f g l fun b hb=>h b (List.mem_cons_of_mem _ hb)
  rw [List.flatMap_cons,JH,List.map_cons,bC]
  omega
theorem wW {α:Type} (g:α->Nat) (a b:Nat):∀ l:List α,bC (l.map fun x=>g x*a+b)=bC (l.map g)*a+l.length*b
 | []=>by simp [bC]
 | x::l=>by
  have:=wW g a b l
  simp only [List.map_cons,bC,List.length_cons,this,Nat.add_mul,Nat.one_mul]
  omega
theorem Zn {t:Tm} {X:List (List Int×Int)} {n h z:Nat} (hX:X.length<=n) (hh:hF false Option.none t<=h) (hz:bJ t<=z):wV (Ca t X)<=n*((h*z)*125+(2*z+1)*68)+n*((2*(h*z)+(2*z+1))*(5*z+9)):=by
 have hs:=nX false Option.none t eps
 have hl:=kV false Option.none t eps
 have hS:hF false Option.none t*bJ t<=h*z:=Nat.mul_le_mul hh hz
 generalize hS0:bC ((D8 t).map fun p=>bJ p.1)=S at hs
 have adz:S<=h*z:=Nat.le_trans hs hS
 have adA:(D8 t).length<=2*z+1:=by have:(D8 t).length<=2*bJ t+1:=hl;omega
 unfold Ca
 rw [JH]
 refine Nat.add_le_add ?_ ?_
 ·refine Nat.le_trans (ug _ (fun p:Tm×Tm=>(bJ p.1*125+68)*n) _ fun p _=>?_) ?_
  ·rw [vo,Nat.mul_comm]
   exact Nat.mul_le_mul (by unfold kB;omega) hX
  ·have e:(fun p:Tm×Tm=>(bJ p.1*125+68)*n)=fun p:Tm×Tm=>bJ p.1*(125*n)+68*n:=by
    funext p;rw [Nat.add_mul,Nat.mul_assoc]
   rw [e,wW (fun p:Tm×Tm=>bJ p.1),hS0]
   have h1:S*(125*n)<=(h*z)*(125*n):=Nat.mul_le_mul_right _ adz
   have h2:(D8 t).length*(68*n)<=(2*z+1)*(68*n):=Nat.mul_le_mul_right _ adA
   refine Nat.le_trans (Nat.add_le_add h1 h2) (Nat.le_of_eq ?_)
   rw [Nat.mul_add,Nat.mul_comm n,Nat.mul_comm n,Nat.mul_assoc (h*z),Nat.mul_assoc (2*z+1)]
 ·refine Nat.le_trans (ug _ (fun s:Tm×Tm=>(2*bJ s.1+1)*(n*(5*z+9))) _ fun s _=>?_) ?_
  ·refine Nat.le_trans (ug _ (fun _:Tm×Tm=>n*(5*z+9)) _ fun p _=>?_) ?_
   ·rw [vo]
    exact Nat.mul_le_mul hX (by unfold kA;omega)
   ·have e:=wW (fun _:Tm×Tm=>0) 0 (n*(5*z+9)) (D8 s.1)
    simp only [Nat.mul_zero,Nat.zero_add] at e
    rw [e]
    exact Nat.mul_le_mul_right _ (kV _ _ _ _)
  ·have e:(fun s:Tm×Tm=>(2*bJ s.1+1)*(n*(5*z+9)))=fun s:Tm×Tm=>bJ s.1*(2*(n*(5*z+9)))+n*(5*z+9):=by
    funext s;rw [Nat.add_mul,Nat.one_mul,Nat.mul_comm 2,Nat.mul_assoc]
   rw [e,wW (fun p:Tm×Tm=>bJ p.1),hS0]
   have h1:S*(2*(n*(5*z+9)))<=(h*z)*(2*(n*(5*z+9))):=Nat.mul_le_mul_right _ adz
   have h2:(D8 t).length*(n*(5*z+9))<=(2*z+1)*(n*(5*z+9)):=Nat.mul_le_mul_right _ adA
   refine Nat.le_trans (Nat.add_le_add h1 h2) (Nat.le_of_eq ?_)
   generalize 5*z+9=q
   generalize 2*z+1=r
   generalize h*z=x
   rw [Nat.add_mul,Nat.mul_add]
   congr 1
   ·rw [Nat.mul_left_comm x 2,<-Nat.mul_assoc 2,Nat.mul_left_comm (2*x) n,Nat.mul_assoc 2,Nat.mul_left_comm n 2,Nat.mul_left_comm n x]<;>omega
   ·rw [Nat.mul_left_comm]
def yl (pre:List Int):List Int->List (List Int×Int)
 | []=>[]
 | c::r=>((D7 pre).map fun v=>(v,c))++yl (pre++[c]) r
theorem Cb:∀ (r pre:List Int),2*(yl pre r).length=r.length*(2*pre.length+r.length+1)
 | [],_=>by simp [yl]
 | c::r,pre=>by
  have:=Cb r (pre++[c])
  rw [yl,List.length_append,List.length_map,wU,List.length_cons,Nat.mul_add,this,List.length_append]
  simp only [List.length_cons,List.length_nil,Nat.zero_add]
  generalize r.length=n
  generalize pre.length=m
  rw [show 2*(m+1)+n+1=(2*m+(n+1)+1)+1 from by omega,Nat.mul_add n _ 1,Nat.add_mul n 1]
  omega
theorem Cc {v:List Int} {c:Int}:∀ (a b pre:List Int),v <:+ pre++a->(v,c)∈yl pre (a++c::b)
 | [],b,pre,h=>by
  rw [List.append_nil] at h
  exact List.mem_append_left _ (List.mem_map.2 ⟨v,sw h,rfl⟩)
 | d::a,b,pre,h=>by
  refine List.mem_append_right _ (Cc a b (pre++[d]) ?_)
  simpa using h
def sG (L:List Int):List (List Int×Int):=yl [] L
theorem M_ {L:List Int} (h:L.length<=60):(sG L).length<=1830:=by
 have:=Cb L []
 simp only [List.length_nil,Nat.mul_zero,Nat.zero_add] at this
 have h2:L.length*(L.length+1)<=60*61:=Nat.mul_le_mul h (by omega)
 unfold sG
 omega
theorem Na {L a b v w:List Int} {c:Int} (e:L=a++c::b) (hw:w <:+ a) (hv:v <:+ w):(v,c)∈sG L:=by
 rw [e];exact Cc a b [] (by simpa using hv.trans hw)
end Go.Proofs.YtfolanohokflkaaGreatDoor
namespace Go.Proofs.YtfolanohokflkaaGreatDoor
open Tm (eps)
theorem adB {t:Tm} (h:bL t=false):hF true Option.none t=hF false Option.none t:=by cases t<;>first | rfl | cases h
theorem adC (t:Tm):hF false Option.none t<=hF true Option.none t+1:=by
 cases t with
 | chain a b=>simp only [hF];simp
 | _=>exact Nat.le_succ _
theorem adD (t:Tm):hF true Option.none t<=hF false Option.none t:=by
 cases t with
 | chain a b=>simp only [hF];simp
 | _=>exact Nat.le_refl _
theorem aa7 (k:Bool) (t:Tm):hF false (some k) t<=hF false Option.none t:=by
 cases t with
 | aW k' a b=>simp only [hF];split<;>simp
 | _=>exact Nat.le_refl _
theorem Zo {k:Bool} {t:Tm} (h:dK k t=true):hF false (some k) t=hF false Option.none t:=by
 cases t with
 | aW k' a b=>
  have:k'≠k:=by simpa [dK] using h
  simp [hF,Ne.symm this]
 | _=>rfl
theorem Vi {k:Bool} {m:Tm}:∀ (t:Tm),m∈memT k t->dK k m=true->hF false Option.none m<=hF false (some k) t
 | t,h,hm=>by
  rcases ja k t with ⟨a,b,rfl⟩ | hn
  ·rw [iq] at h
   simp only [hF,if_true,Nat.add_zero]
   rcases List.mem_cons.1 h with rfl | h
   ·exact Nat.le_max_left _ _
   ·exact Nat.le_trans (Vi b h hm) (Nat.le_max_right _ _)
  ·rw [bu hn] at h
   have:m=t:=by simpa using h
   subst this
   rw [Zo hn];exact Nat.le_refl _
theorem R4:∀ (u z:Tm),bJ (au u z)<=bJ u+bJ z+1:=by
 intro u
 induction u with
 | chain a b iha ihb=>
  intro z
  have h1:=iha (au b z)
  have h2:=ihb z
  rw [au]
  split
  ·simp only [bJ];omega
  ·split
   ·simp only [bJ];omega
   ·simp only [bJ];omega
 | _=>
  intro z
  simp only [au]
  repeat' split
  all_goals simp only [bJ]
  all_goals omega
theorem R5 {n:Nat}:∀ (u z:Tm),Cn u->hF true Option.none u<=n->hF true Option.none z<=n->hF true Option.none (au u z)<=n:=by
 intro u
 induction u with
 | chain a b iha ihb=>
  intro z hu h1 h2
  simp only [hF,if_true,Nat.add_zero] at h1
  have ha:hF true Option.none a<=n:=by rw [adB hu.2.2.1];omega
  have hb:hF true Option.none b<=n:=by omega
  have h3:=ihb z hu.2.1 hb h2
  have h4:=iha _ hu.1 ha h3
  rw [au]
  split
  ·simp [hF]
  ·split
   ·simp only [hF,if_true,Nat.add_zero];omega
   ·exact h4
 | _=>
  intro z _ h1 h2
  simp only [au]
  simp only [hF] at h1
  repeat' split
  all_goals try simp only [hF,if_true,Nat.add_zero] at *
  all_goals omega
theorem Gz:∀ {l:List Tm},l≠[]->bJ (kP l)+1<=bC (l.map fun t=>bJ t+1)
 | [],h=>absurd rfl h
 | [a],_=>by simp [kP,ai,bC]
 | a::b::l,_=>by
  have ih:=Gz (l:=b::l) (by simp)
  have h1:=R4 a (kP (b::l))
  rw [List.map_cons,bC]
  show bJ (au a (kP (b::l)))+1<=_
  omega
theorem Vj {n:Nat}:∀ {l:List Tm},(∀ t∈l,Cn t)->(∀ t∈l,hF false Option.none t<=n)->hF true Option.none (kP l)<=n
 | [],_,_=>by simp [kP,hF]
 | a::l,hc,h=>R5 a (kP l) (hc a (List.mem_cons_self ..)) (Nat.le_trans (adD a) (h a (List.mem_cons_self ..))) (Vj (fun t ht=>hc t (List.mem_cons_of_mem _ ht)) fun t ht=>h t (List.mem_cons_of_mem _ ht))
theorem Nb {n:Nat} {l:List Tm} (hc:∀ t∈l,Cn t) (h:∀ t∈l,hF false Option.none t<=n):hF false Option.none (kP l)<=n+1:=by
 have:=adC (kP l)
 have:=Vj hc h
 omega
theorem Pk (a:Tm):bJ (gN a)<=bJ a+1:=by
 unfold gN
 split
 ·simp [bJ]
 ·cases a<;>simp [bJ]
theorem Zp (a:Tm):hF false Option.none (gN a)<=hF false Option.none a+1:=by
 unfold gN
 split
 ·simp [hF]
 ·cases a<;>simp [hF]
theorem abR (a:Tm):bJ (jO a)<=bJ a+1:=by cases a<;>simp [jO,bJ]<;>omega
theorem abS (a:Tm):hF false Option.none (jO a)<=hF false Option.none a+1:=by
 cases a with
 | not x=>simp only [jO,hF];omega
 | _=>simp [jO,hF]
theorem Vk (k:Bool) (t:Tm):bC ((memT k t).map fun m=>bJ m+1)=bJ t+1:=by
 induction t with
 | aW k' a b _ ih=>
  by_cases e:k'=k
  ·subst e
   rw [iq,List.map_cons,bC,ih]
   simp only [bJ];omega
  ·rw [memT,if_neg e];simp [bC]
 | _=>simp [memT,bC]
theorem Pm (k:Bool):∀ {l:List Tm},l≠[]->bJ (gX k l)+1=bC (l.map fun m=>bJ m+1)
 | [],h=>absurd rfl h
 | [a],_=>by simp [gX,bC]
 | a::b::l,_=>by
  have ih:=Pm k (l:=b::l) (by simp)
  rw [jb k a (by simp),List.map_cons,bC,<-ih]
  simp only [bJ];omega
theorem GA (k:Bool):∀ l:List Tm,bC ((l.flatMap (memT k)).map fun m=>bJ m+1)=bC (l.map fun m=>bJ m+1)
 | []=>rfl
 | a::l=>by rw [List.flatMap_cons,List.map_append,kW,Vk,GA k l,List.map_cons,bC]
theorem GD {α:Type} [DecidableEq α] (f:α->Nat):∀ {l m:List α},l.Nodup->(∀ x∈l,x∈m)->bC (l.map f)<=bC (m.map f)
 | [],_,_,_=>Nat.zero_le _
 | a::l,m,hn,hs=>by
  have hn':=List.nodup_cons.1 hn
  have ha:=hs a (List.mem_cons_self ..)
  have ih:=GD f (l:=l) (m:=m.erase a) hn'.2 fun x hx=>by
   have hne:x≠a:=by rintro rfl;exact hn'.1 hx
   exact (List.mem_erase_of_ne hne).2 (hs x (List.mem_cons_of_mem _ hx))
  have e:∀ m:List α,a∈m->bC (m.map f)=f a+bC ((m.erase a).map f):=by
   intro m
   induction m with
   | nil=>intro h;cases h
   | cons b m ih=>
    intro h
    rw [List.erase_cons]
    split
    ·rename_i q
     rw [eq_of_beq q];rfl
    ·rename_i q
     have:a∈m:=by
      rcases List.mem_cons.1 h with e | h
      ·exact absurd (by rw [e];simp) q
      ·exact h
     rw [List.map_cons,bC,ih this,List.map_cons,bC];omega
  rw [List.map_cons,bC,e m ha]
  omega
theorem JI {k:Bool} {l:List Tm} (hl:∀ t∈l,Cn t) (h2:2<=l.length):bJ (aj k l)+1<=bC (l.map fun m=>bJ m+1):=by
 have hbig:∀ l:List Tm,l.length<=bC (l.map fun m=>bJ m+1):=fun l=>by
  induction l with
  | nil=>simp [bC]
  | cons a l ih=>rw [List.map_cons,bC,List.length_cons];omega
 have htr:∀ t:Tm,cZ t=true->bJ t+1<=bC (l.map fun m=>bJ m+1):=fun t ht=>by
  have:=hbig l
  have:bJ t<=1:=by
   cases t with
   | not a=>cases a with
    | set s=>cases s<;>simp [bJ]
    | _=>simp [cZ] at ht
   | set s=>simp [bJ]
   | eps=>simp [bJ]
   | _=>simp [cZ] at ht
  omega
 have hok:∀ t∈l.flatMap (memT k),gp t:=jW hl
 rw [<-GA k]
 rw [<-GA k] at htr
 generalize hF:l.flatMap (memT k)=F at *
 have aeC:∀ L:List Tm,L≠[]->L.Nodup->(∀ m∈L,m∈aV k F)->bJ (gX k L)+1<=bC (F.map fun m=>bJ m+1):=by
  intro L hne hn hs
  rw [Pm k hne]
  cases hf:f_ k (F.filterMap aP) with
  | none=>
   refine GD _ hn fun x hx=>?_
   rcases aN.1 (hs x hx) with ⟨h,_⟩ | ⟨s,h,_⟩
   ·exact h
   ·rw [hf] at h;cases h
  | some s=>
   obtain ⟨s0,hs0⟩:=wS hf
   have e:L.map (fun m=>bJ m+1)=(L.map fun m=>if m=.set s then .set s0 else m).map fun m=>bJ m+1:=by
    rw [List.map_map]
    refine List.map_congr_left fun m _=>?_
    simp only [Function.comp]
    split
    ·rename_i q;rw [q];rfl
    ·rfl
   have hcase:∀ x∈L,x=.set s\/(x∈F/\aP x=Option.none):=fun x hx=>by
    rcases aN.1 (hs x hx) with h | ⟨s',h,rfl⟩
    ·exact .inr h
    ·rw [hf] at h;cases h;exact .inl rfl
   rw [e]
   refine GD _ ?_ fun x hx=>?_
   ·rw [List.nodup_iff_pairwise_ne,List.pairwise_map]
    refine List.Pairwise.imp_of_mem (fun {a b} ha hb hab=>?_) hn
    rcases hcase a ha with rfl | ⟨ha1,ha2⟩
    ·rcases hcase b hb with rfl | ⟨hb1,hb2⟩
     ·exact absurd rfl hab
     ·rw [if_pos rfl,if_neg (by rintro rfl;cases hb2)]
      rintro rfl;cases hb2
    ·rw [if_neg (by rintro rfl;cases ha2)]
     rcases hcase b hb with rfl | ⟨hb1,hb2⟩
     ·rw [if_pos rfl];rintro rfl;cases ha2
     ·rw [if_neg (by rintro rfl;cases hb2)];exact hab
   ·obtain ⟨y,hy,rfl⟩:=List.mem_map.1 hx
    rcases hcase y hy with rfl | ⟨hy1,hy2⟩
    ·rw [if_pos rfl];exact hs0
    ·rw [if_neg (by rintro rfl;cases hy2)];exact hy1
 unfold aj oV
 rw [hF]
 split
 ·exact htr _ (yh k)
 split
 ·exact htr _ (tY k)
 ·rename_i hne
  refine aeC _ hne ((x8 (nP hok).2).filter _) fun m hm=>(List.mem_filter.1 hm).1
theorem Po {k:Bool} {n:Nat}:∀ {l:List Tm},(∀ t∈l,hF false Option.none t<=n)->hF false (some k) (gX k l)<=n
 | [],_=>by simp [gX,hF]
 | [a],h=>Nat.le_trans (aa7 k a) (h a (List.mem_cons_self ..))
 | a::b::l,h=>by
  have ih:=Po (k:=k) (l:=b::l) fun t ht=>h t (List.mem_cons_of_mem _ ht)
  have:=h a (List.mem_cons_self ..)
  rw [jb k a (by simp)]
  simp only [hF,if_true,Nat.add_zero]
  omega
theorem Zq (k:Bool) (t:Tm):hF false Option.none t<=hF false (some k) t+1:=by
 cases t with
 | aW k' a b=>
  by_cases e:k'=k
  ·subst e;simp only [hF];simp
  ·simp only [hF];simp [Ne.symm e]
 | _=>exact Nat.le_succ _
theorem JJ {k:Bool} {n:Nat} {l:List Tm} (hl:∀ t∈l,Cn t) (h:∀ t∈l,hF false Option.none t<=n):hF false Option.none (aj k l)<=n+1:=by
 unfold aj oV
 split
 ·cases k<;>simp [eT,hF]
 split
 ·cases k<;>simp [bG,hF]
 ·refine Nat.le_trans (Zq k _) (Nat.succ_le_succ (Po fun t ht=>?_))
  rcases aN.1 (List.mem_filter.1 ht).1 with ⟨q,_⟩ | ⟨s,_,rfl⟩
  ·obtain ⟨d,hd,hm⟩:=List.mem_flatMap.1 q
   exact Nat.le_trans (Vi d hm ((hl d hd).members t hm).2) (Nat.le_trans (aa7 k d) (h d hd))
  ·simp [hF]
end Go.Proofs.YtfolanohokflkaaGreatDoor
namespace Go.Proofs.YtfolanohokflkaaGreatDoor
open Tm (eps)
def Pp (k s:Nat) (t:Tm):Prop:=∃ u L q,bJ t+3<=s*(3+u)/\hF false Option.none t<=L+q/\2 ^ q<=s/\L+3*u<=k
theorem Ac {k s:Nat} {t:Tm} (hs:1<=s) (h1:bJ t=0) (h2:hF false Option.none t=0):Pp k s t:=
 ⟨0,0,0,by omega,by omega,by simpa using hs,by omega⟩
theorem abT {k s:Nat} {t:Tm} (h:Pp k s t):Pp (k+1) (s+1) (jO t):=by
 obtain ⟨u,L,q,h1,h2,h3,h4⟩:=h
 have:=abR t
 have:=abS t
 exact ⟨u,L+1,q,by rw [Nat.add_mul];omega,by omega,by omega,by omega⟩
def WtL (k s:Nat) (l:List Tm):Prop:=∃ u L q,bC (l.map fun t=>bJ t+3)<=s*(3+u)/\(∀ t∈l,hF false Option.none t<=L+q)/\2 ^ q<=s/\L+3*u<=k
theorem Zr {k s:Nat} {t:Tm} (h:Pp k s t):WtL k s [t]:=by
 obtain ⟨u,L,q,h1,h2,h3,h4⟩:=h
 exact ⟨u,L,q,by simpa [bC] using h1,by simpa using h2,h3,h4⟩
theorem Vl {s u v:Nat} (h:u<=v):s*(3+u)<=s*(3+v):=Nat.mul_le_mul_left _ (by omega)
theorem Vm {k k' s s':Nat} {l:List Tm} {t:Tm} (h:WtL k s l) (h':Pp k' s' t):WtL (k+k') (s+s') (l++[t]):=by
 obtain ⟨u,L,q,h1,h2,h3,h4⟩:=h
 obtain ⟨u',L',q',h1',h2',h3',h4'⟩:=h'
 have a1:=Vl (s:=s) (Nat.le_max_left u u')
 have a2:=Vl (s:=s') (Nat.le_max_right u u')
 refine ⟨max u u',max L L',max q q',?_,?_,?_,by omega⟩
 ·rw [List.map_append,kW,Nat.add_mul]
  simp only [List.map_cons,List.map_nil,bC,Nat.add_zero]
  omega
 ·intro x hx
  rcases List.mem_append.1 hx with hx | hx
  ·have:=h2 x hx;omega
  ·have:x=t:=by simpa using hx
   subst this;omega
 ·rcases Nat.le_total q q' with e | e
  ·rw [Nat.max_eq_right e];omega
  ·rw [Nat.max_eq_left e];omega
theorem E9:∀ l:List Tm,bC (l.map fun t=>bJ t+3)=bC (l.map fun t=>bJ t+1)+2*l.length
 | []=>rfl
 | a::l=>by rw [List.map_cons,bC,E9 l,List.map_cons,bC,List.length_cons];omega
theorem Pq {k s n:Nat} {l:List Tm} {t:Tm} (h:WtL k s l) (hn:l.length=n+2) (h1:bJ t+1<=bC (l.map fun t=>bJ t+1)) (h2:∀ m,(∀ t∈l,hF false Option.none t<=m)->hF false Option.none t<=m+1):Pp (k+1) (s+(n+1)) t:=by
 obtain ⟨u,L,q,g1,g2,g3,g4⟩:=h
 have:=h2 _ g2
 rw [E9] at g1
 refine ⟨u,L+1,q,?_,by omega,by omega,by omega⟩
 rw [Nat.add_mul]
 have:(n+1)*3<=(n+1)*(3+u):=Nat.mul_le_mul_left _ (by omega)
 omega
def wX (d:Nat) (o:jc):Prop:=match o.2.1 with
 | Option.none=>(o.2.2=2/\o.1<=1/\1<=d)\/(o.2.2=(o.1:Int)+1/\4<=d)
 | some m=>(o.1=0/\m=1/\o.2.2=2/\1<=d)\/(o.1<=m/\o.2.2=max (m:Int) 1/\3<=d/\(o.1<m->5<=d))
theorem JK (a b:List Tm):kP (a++b)=a.foldr au (kP b):=by simp [kP,List.foldr_append]
theorem GG (n:Nat) (t:Tm):bC ((List.replicate n t).map fun t=>bJ t+1)=n*(bJ t+1):=by
 induction n with
 | zero=>simp [bC]
 | succ n ih=>rw [List.replicate_succ,List.map_cons,bC,ih,Nat.add_mul (n) 1];omega
theorem JL (t:Tm) (n:Nat):mJ t n Option.none=kP (List.replicate n t++[gN t]):=by
 rw [JK];simp [mJ,kP,ai]
theorem JM (t:Tm) (n m:Nat):mJ t n (some m)=kP (List.replicate n t++List.replicate (m - n) (mW t)):=by
 rw [JK];rfl
theorem Vn {t:Tm} (ht:Cn t):bJ (mW t)<=bJ t+1:=by
 have:=JI (k:=false) (l:=[eps,t]) (by simpa using ⟨trivial,ht⟩) (by simp)
 simp only [List.map_cons,List.map_nil,bC,bJ] at this
 unfold mW
 omega
theorem abU {t:Tm} (ht:Cn t):hF false Option.none (mW t)<=hF false Option.none t+1:=JJ (by simpa using ⟨trivial,ht⟩) (by simp [hF])
theorem wY {q s:Nat} (h:2 ^ q<=s) {f:Nat} (hf:1<=f):2 ^ q<=s*f:=Nat.le_trans h (Nat.le_mul_of_pos_right _ hf)
theorem abV {k s f d:Nat} {t:Tm} {o:jc} (ht:Cn t) (h:Pp k s t) (hs:1<=s) (hf:o.2.2=(f:Int)) (ho:wX d o):Pp (k+d) (s*f) (mJ t o.1 o.2.1):=by
 obtain ⟨n,om,ff⟩:=o
 obtain ⟨u,L,q,h1,h2,h3,h4⟩:=h
 dsimp only at hf ⊢
 subst hf
 have hst:=O5 ht
 have hop:=U0 ht
 have e1:=Pk t
 have e2:=Zp t
 have e3:=Vn ht
 have e4:=abU ht
 cases om with
 | none=>
  dsimp only [wX] at ho
  have hz:=Gz (l:=List.replicate n t++[gN t]) (by simp)
  have hh:=Nb (n:=hF false Option.none t+1) (l:=List.replicate n t++[gN t]) (by
   intro x hx
   rcases List.mem_append.1 hx with hx | hx
   ·rw [(List.mem_replicate.1 hx).2];exact ht
   ·simp at hx;subst hx;exact hst) (by
   intro x hx
   rcases List.mem_append.1 hx with hx | hx
   ·rw [(List.mem_replicate.1 hx).2];omega
   ·simp at hx;subst hx;exact e2)
  rw [<-JL] at hz hh
  rw [List.map_append,kW,GG] at hz
  simp only [List.map_cons,List.map_nil,bC,Nat.add_zero] at hz
  rcases ho with ⟨hf,hn,hd⟩ | ⟨hf,hd⟩
  ·have hf2:f=2:=by omega
   subst hf2
   rcases Nat.lt_or_ge 0 n with hn0 | hn0
   ·have:n=1:=by omega
    subst this
    refine ⟨u,L+1,q+1,?_,by omega,by rw [Nat.pow_succ];exact Nat.mul_le_mul_right _ h3,by omega⟩
    rw [Nat.mul_assoc,Nat.mul_comm 2,<-Nat.mul_assoc]
    omega
   ·have:n=0:=by omega
    subst this
    rw [show mJ t 0 Option.none=gN t from by simp [mJ]] at *
    refine ⟨u,L+1,q,?_,by omega,wY h3 (by omega),by omega⟩
    rw [Nat.mul_assoc,Nat.mul_comm 2,<-Nat.mul_assoc]
    omega
  ·have hf2:f=n+1:=by omega
   subst hf2
   rcases Nat.lt_or_ge 0 n with hn0 | hn0
   ·refine ⟨u,L+2,q,?_,by omega,wY h3 (by omega),by omega⟩
    have a1:(bJ t+3)*(n+1)<=s*(3+u)*(n+1):=Nat.mul_le_mul_right _ h1
    rw [Nat.mul_assoc,Nat.mul_comm (n+1),<-Nat.mul_assoc]
    rw [Nat.add_mul,Nat.mul_add] at a1
    rw [Nat.mul_add,Nat.mul_comm n] at hz
    omega
   ·have:n=0:=by omega
    subst this
    rw [show mJ t 0 Option.none=gN t from by simp [mJ]] at *
    refine ⟨u+1,L+1,q,?_,by omega,wY h3 (by omega),by omega⟩
    rw [show 3+(u+1)=(3+u)+1 from by omega,Nat.zero_add,Nat.mul_one,Nat.mul_add]
    omega
 | some m=>
  dsimp only [wX] at ho
  rcases ho with ⟨rfl,rfl,hf,hd⟩ | ⟨hnm,hf,hd,hd5⟩
  ·have hf2:f=2:=by omega
   subst hf2
   rw [show mJ t 0 (some 1)=mW t from by simp [mJ,kP,ai]]
   refine ⟨u,L+1,q,?_,by omega,wY h3 (by omega),by omega⟩
   rw [Nat.mul_assoc,Nat.mul_comm 2,<-Nat.mul_assoc]
   omega
  ·rcases Nat.lt_or_ge 1 m with hm | hm
   ·have hf2:f=m:=by omega
    subst hf2
    have hz:=Gz (l:=List.replicate n t++List.replicate (f - n) (mW t)) (by
     intro e
     have:=congrArg List.length e
     simp at this
     omega)
    have hh:=Nb (n:=hF false Option.none t+1) (l:=List.replicate n t++List.replicate (f - n) (mW t)) (by
     intro x hx
     rcases List.mem_append.1 hx with hx | hx
     ·rw [(List.mem_replicate.1 hx).2];exact ht
     ·rw [(List.mem_replicate.1 hx).2];exact hop) (by
     intro x hx
     rcases List.mem_append.1 hx with hx | hx
     ·rw [(List.mem_replicate.1 hx).2];omega
     ·rw [(List.mem_replicate.1 hx).2];exact e4)
    rw [<-JM] at hz hh
    rw [List.map_append,kW,GG,GG] at hz
    refine ⟨u,L+2,q,?_,by omega,wY h3 (by omega),by omega⟩
    have a1:(bJ t+3)*f<=s*(3+u)*f:=Nat.mul_le_mul_right _ h1
    rw [Nat.mul_assoc,Nat.mul_comm f,<-Nat.mul_assoc]
    have a2:(f - n)*(bJ (mW t)+1)<=(f - n)*(bJ t+2):=Nat.mul_le_mul_left _ (by omega)
    have a3:n*(bJ t+1)<=n*(bJ t+2):=Nat.mul_le_mul_left _ (by omega)
    have a4:n*(bJ t+2)+(f - n)*(bJ t+2)=f*(bJ t+2):=by rw [<-Nat.add_mul];congr 1;omega
    rw [Nat.mul_comm f,Nat.add_mul] at a4
    rw [Nat.add_mul] at a1
    omega
   ·have hf2:f=1:=by omega
    subst hf2
    rw [Nat.mul_one]
    rcases Nat.lt_or_ge n m with hlt | hge
    ·have e0:n=0:=by omega
     have e1:m=1:=by omega
     subst e0 e1
     rw [show mJ t 0 (some 1)=mW t from by simp [mJ,kP,ai]]
     have:=hd5 hlt
     refine ⟨u+1,L+1,q,?_,by omega,h3,by omega⟩
     rw [show 3+(u+1)=(3+u)+1 from by omega,Nat.mul_add]
     omega
    ·have e0:n=m:=by omega
     subst e0
     rcases Nat.lt_or_ge 0 n with hn0 | hn0
     ·have:n=1:=by omega
      subst this
      rw [show mJ t 1 (some 1)=t from by simp [mJ,kP,ai]]
      exact ⟨u,L,q,h1,h2,h3,by omega⟩
     ·have:n=0:=by omega
      subst this
      rw [show mJ t 0 (some 0)=eps from by simp [mJ,kP]]
      exact Ac hs rfl rfl
end Go.Proofs.YtfolanohokflkaaGreatDoor
namespace Go.Proofs.YtfolanohokflkaaGreatDoor
open Tm (eps)
theorem eZ {l:List Sy} (h:0<=hd l):l.tail.length+1=l.length:=by
 cases l with
 | nil=>exact absurd h (by decide)
 | cons x l=>rfl
theorem di (l:List Sy):l.tail.length<=l.length:=by simp
theorem Ps:∀ (f:Nat) (v:Int) (k:Nat) (l:List Sy),(mQ f v k l).2.2.length<=l.length
 | 0,_,_,_=>Nat.le_refl _
 | f+1,v,k,l=>by
  rw [mQ];split
  ·exact Nat.le_trans (Ps f _ _ _) (di l)
  ·exact Nat.le_refl _
theorem Vo {n:Nat} {l l':List Sy} {c:Int} (h:mM n l=.ok (c,l')):l'.length<=l.length:=by
 unfold mM kI at h
 repeat' split at h
 all_goals first
  | (simp only [bad] at h;cases h;done)
  | (cases h;exact Nat.le_trans (di _) (Nat.le_trans (Ps _ _ _ _) (di l)))
theorem vv {n:Nat} {l l':List Sy} {c:Int} (h:dJ n l=.ok (c,l')):l'.length<=l.length:=by
 unfold dJ at h
 split at h
 ·exact Nat.le_trans (Vo h) (di l)
 ·repeat' split at h
  all_goals first
   | (simp only [bad] at h;cases h;done)
   | (cases h;exact di l)
theorem ym {n:Nat} {l l':List Sy} {c:Int} (h:fe n l=.ok (c,l')):l'.length<=l.length:=by
 unfold fe at h
 split at h
 ·exact Nat.le_trans (vv h) (di l)
 ·split at h
  ·simp only [bad] at h;cases h
  ·cases h;exact di l
theorem Vp {n:Nat} {l l':List Sy} {s:ah} (h:jA n l=.ok (s,l')):l'.length<=l.length:=by
 unfold jA at h
 split at h
 ·cases h;exact Nat.le_trans (di _) (di l)
 ·split at h
  ·cases h
  ·rename_i a l1 e
   have h1:=ym e
   split at h
   ·split at h
    ·cases h
    ·rename_i b l2 e2
     have h2:=ym e2
     have h3:=di l1
     split at h
     ·simp only [bad] at h;cases h
     ·cases h;omega
   ·cases h;exact h1
theorem o6 {n:Nat}:∀ (f:Nat) {s s':ah} {l l':List Sy},bB n f s l=.ok (s',l')->l'.length<=l.length
 | 0,_,_,_,_,h=>by simp only [bB,bad] at h;cases h
 | f+1,s,s',l,l',h=>by
  rw [bB] at h
  split at h
  ·cases h;exact di l
  ·split at h
   ·cases h
   ·rename_i p l1 e
    have:=Vp e
    have:=o6 f h
    omega
theorem R6 {n:Nat} {s:ah} {l l':List Sy} (h:iG n l=.ok (s,l')):l'.length<=l.length:=by
 unfold iG at h
 split at h
 ·unfold Bv at h
  split at h
  ·cases h
  ·rename_i s1 l1 e
   have:=o6 _ e
   have:=di l
   cases h;omega
 ·exact o6 _ h
theorem JN {n:Nat} {s:ah} {l l':List Sy} (h:eB n l=.ok (s,l')):l'.length+1<=l.length:=by
 unfold eB at h
 split at h
 ·rename_i q
  have:=R6 h
  have:=eZ (l:=l) (by omega)
  omega
 split at h
 ·rename_i q
  have h0:=eZ (l:=l) (by omega)
  split at h
  ·cases h
   have:=di l.tail
   omega
  ·unfold RB at h
   split at h
   ·cases h
   ·rename_i c l1 e
    have:=vv e
    cases h;omega
 split at h
 ·rename_i q
  have h0:=eZ (l:=l) (by omega)
  cases h;omega
 split at h
 ·simp only [bad] at h;cases h
 ·rename_i q
  have h0:=eZ (l:=l) (by omega)
  cases h;omega
theorem Pv {n:Nat} {least v:Int} {l l':List Sy} (h:bP n least l=.ok (v,l')):0<=v/\least<=v/\l'.length+1<=l.length:=by
 unfold bP at h
 split at h
 ·rename_i hdig
  have hd0:48<=hd l/\hd l<=57:=by simpa [fP] using hdig
  have h0:=eZ (l:=l) (by omega)
  split at h
  ·simp only [bad] at h;cases h
  ·rename_i hr
   simp only [Except.ok.injEq] at h
   have e1:(iR l).1=v:=by rw [h]
   have e2:(iR l).2=l':=by rw [h]
   have hl:¬ (iR l).1<least:=fun q=>hr (.inl q)
   rw [e1] at hl
   refine ⟨?_,by omega,?_⟩
   ·rw [<-e1];unfold iR;split
    ·rename_i q
     have:48<=hd l.tail/\hd l.tail<=57:=by simpa [fP] using q.2
     show 0<=10*(hd l - 48)+(hd l.tail - 48)
     omega
    ·show 0<=hd l - 48
     omega
   ·rw [<-e2];unfold iR
    have:=di l.tail
    split
    ·show l.tail.tail.length+1<=_;omega
    ·show l.tail.length+1<=_;omega
 ·simp only [bad] at h;cases h
theorem JO {n:Nat} {m o:jc} {l l':List Sy} (h:fK n m l=.ok (o,l')):o=m/\l'.length+1<=l.length:=by
 unfold fK at h
 split at h
 ·rename_i q
  have:=eZ (l:=l) (by omega)
  cases h;exact ⟨rfl,by omega⟩
 ·simp only [bad] at h;cases h
theorem aa8 {m:Int} (h:0<=m):kE m=max ((m.toNat:Nat):Int) 1:=by
 unfold kE;split<;>omega
theorem yn {n:Nat} {o:jc} {l l':List Sy} (hr:kH (hd l)=true) (h:dM n l=.ok (o,l')):∃ d,wX d o/\l'.length+d<=l.length/\∃ f:Nat,1<=f/\o.2.2=(f:Int):=by
 have hp:0<=hd l:=by
  unfold kH at hr
  simp at hr
  omega
 have h0:=eZ hp
 unfold dM at h
 split at h
 ·unfold gI at h
  split at h
  ·cases h
  ·rename_i a l1 e
   obtain ⟨ha,_,hl1⟩:=Pv e
   split at h
   ·rename_i q
    have h1:=eZ (l:=l1) (by omega)
    split at h
    ·rename_i q2
     have h2:=eZ (l:=l1.tail) (by omega)
     cases h
     refine ⟨4,.inr ⟨?_,Nat.le_refl _⟩,by omega,(a+1).toNat,by omega,?_⟩
     ·show a+1=((a.toNat:Nat):Int)+1;omega
     ·show a+1=(((a+1).toNat:Nat):Int);omega
    ·split at h
     ·cases h
     ·rename_i m l2 e2
      obtain ⟨hm,hm2,hl2⟩:=Pv e2
      obtain ⟨rfl,hl3⟩:=JO h
      refine ⟨5,.inr ⟨?_,aa8 hm,by omega,fun _=>Nat.le_refl _⟩,by omega,(kE m).toNat,?_,?_⟩
      ·show a.toNat<=m.toNat;omega
      ·unfold kE;split<;>omega
      ·show kE m=_;have:0<=kE m:=by unfold kE;split<;>omega
       omega
   ·obtain ⟨rfl,hl3⟩:=JO h
    refine ⟨3,.inr ⟨Nat.le_refl _,aa8 ha,Nat.le_refl _,fun q=>absurd q (Nat.lt_irrefl _)⟩,by omega,(kE a).toNat,?_,?_⟩
    ·unfold kE;split<;>omega
    ·show kE a=_;have:0<=kE a:=by unfold kE;split<;>omega
     omega
 ·split at h
  ·cases h
   exact ⟨1,.inl ⟨rfl,by simp,Nat.le_refl _⟩,by omega,2,by omega,rfl⟩
  ·split at h
   ·cases h
    exact ⟨1,.inl ⟨rfl,by simp,Nat.le_refl _⟩,by omega,2,by omega,rfl⟩
   ·cases h
    exact ⟨1,.inl ⟨rfl,rfl,rfl,Nat.le_refl _⟩,by omega,2,by omega,rfl⟩
def Ii (k:Nat) (p:Pn):Prop:=1<=p.2/\(p.2<=60->Pp k p.2.toNat (dL p.1))
abbrev abW (d:Nat) (l:List Sy) (r:bn Pn):Prop:=∀ v l',r=.ok (v,l')->∃ k,l'.length+k+d<=l.length/\Ii k v
abbrev WA (d:Nat) (a:List Sy->bn Pn):Prop:=∀ l,bz l->abW d l (a l)
theorem Ad {x:Int} (h:dG x<=60):dG x=x:=by unfold dG at *;split<;>simp_all<;>omega
theorem Pw {x:Int} (h:1<=x):1<=dG x:=by unfold dG;split<;>omega
theorem GH {n:Nat} {l:List Sy}:abW 1 l (kY (eB n l)):=by
 intro v l' h
 unfold kY at h
 split at h
 ·cases h
 ·rename_i s l1 e
  have:=JN e
  cases h
  refine ⟨0,by omega,Int.le_refl _,fun _=>Ac (Nat.le_refl _) ?_ ?_⟩<;>rw [dL]<;>rfl
theorem Px {k:Nat} {p:Pn} (h:Ii k p):Ii (k+1) (Jh p):=by
 refine ⟨Pw (by have:=h.1;omega),fun hq=>?_⟩
 have e:=Ad hq
 show Pp _ (dG (p.2+1)).toNat (dL (.not p.1))
 have hq':dG (p.2+1)<=60:=hq
 rw [e] at hq' ⊢
 rw [dL,show (p.2+1).toNat=p.2.toNat+1 from by have:=h.1;omega]
 exact abT (h.2 (by omega))
theorem Py {k d f:Nat} {p:Pn} {o:jc} (hc:u7 p) (h:Ii k p) (hf:o.2.2=(f:Int)) (hf1:1<=f) (ho:wX d o):Ii (k+d) (x9 p o):=by
 have hp:=h.1
 have e0:p.2*o.2.2=((p.2.toNat*f:Nat):Int):=by rw [hf,Int.natCast_mul,Int.toNat_of_nonneg (by omega)]
 have h1:1<=p.2.toNat*f:=Nat.mul_pos (by omega) (by omega)
 have h2:p.2.toNat<=p.2.toNat*f:=Nat.le_mul_of_pos_right _ hf1
 refine ⟨Pw (by rw [e0];omega),fun hq=>?_⟩
 have e:=Ad hq
 have hq':dG (p.2*o.2.2)<=60:=hq
 show Pp _ (dG (p.2*o.2.2)).toNat (dL (.rep p.1 o.1 o.2.1))
 rw [e,e0] at hq' ⊢
 rw [dL,Int.toNat_natCast]
 exact abV (qA hc) (h.2 (by omega)) (by omega) hf ho
theorem Pz {n:Nat}:∀ (f:Nat) {z:Pn} {l:List Sy} {k:Nat},u7 z->bz l->Ii k z->∀ v l',gY n f z l=.ok (v,l')->∃ k',l'.length+k'<=l.length+k/\Ii k' v
 | 0,_,_,_,_,_,_,_,_,h=>by simp only [gY,bad] at h;cases h
 | f+1,z,l,k,hz,ha,hw,v,l',h=>by
  rw [gY] at h
  split at h
  ·rename_i hr
   split at h
   ·cases h
   ·rename_i m l1 e
    obtain ⟨d,ho,hd,fa,hf1,hf⟩:=yn hr e
    have ha1:=(oH (n:=n) ha _ _ e).2
    obtain ⟨k',h1,h2⟩:=Pz f (z:=x9 z m) (by show oZ (.rep z.1 m.1 m.2.1);rw [oZ];exact hz) ha1 (Py hz hw hf hf1 ho) v l' h
    exact ⟨k',by omega,h2⟩
  ·cases h;exact ⟨k,Nat.le_refl _,hw⟩
theorem GI {n:Nat} {a:List Sy->bn Pn} (ha:fI a) (hw:WA 1 a):∀ (f:Nat) (l:List Sy),bz l->abW 1 l (cO n a f l)
 | 0,_,_=>by intro v l' h;simp only [cO,bad] at h;cases h
 | f+1,l,hl=>by
  intro v l' h
  rw [cO] at h
  split at h
  ·rename_i q
   have h0:=eZ (l:=l) (by omega)
   split at h
   ·cases h
   ·rename_i z l1 e
    obtain ⟨k,h1,h2⟩:=GI ha hw f l.tail hl.tail _ _ e
    cases h
    exact ⟨k+1,by omega,Px h2⟩
  ·split at h
   ·cases h
   ·rename_i z l1 e
    obtain ⟨k,h1,h2⟩:=hw l hl _ _ e
    obtain ⟨hz,hl1⟩:=ha l hl _ _ e
    obtain ⟨k',h3,h4⟩:=Pz _ hz hl1 h2 v l' h
    exact ⟨k',by omega,h4⟩
def Yi (k:Nat) (z:List Pn):Prop:=(∀ p∈z,1<=p.2)/\(dR z<=60->WtL k (dR z).toNat (z.map fun p=>dL p.1))
theorem Vq:∀ (z:List Pn) (y:Pn),dR (z++[y])=dR z+y.2
 | [],y=>by simp [dR]
 | p::z,y=>by rw [List.cons_append,dR,Vq z y,dR];omega
theorem p_:∀ {z:List Pn},(∀ p∈z,1<=p.2)->(z.length:Int)<=dR z
 | [],_=>by simp [dR]
 | p::z,h=>by
  have:=h p (List.mem_cons_self ..)
  have:=p_ (z:=z) fun q hq=>h q (List.mem_cons_of_mem _ hq)
  rw [dR,List.length_cons];omega
theorem GJ {k:Nat} {y:Pn} (h:Ii k y):Yi k [y]:=by
 refine ⟨by simpa using h.1,fun hq=>?_⟩
 simp only [dR,Int.add_zero] at hq ⊢
 exact Zr (h.2 hq)
theorem Ce {k k':Nat} {z:List Pn} {y:Pn} (h:Yi k z) (h':Ii k' y):Yi (k+k') (z++[y]):=by
 have h0:=p_ h.1
 have h1:=h'.1
 refine ⟨fun p hp=>?_,fun hq=>?_⟩
 ·rcases List.mem_append.1 hp with hp | hp
  ·exact h.1 p hp
  ·have:p=y:=by simpa using hp
   subst this;exact h1
 ·rw [Vq] at hq ⊢
  rw [show (dR z+y.2).toNat=(dR z).toNat+y.2.toNat from by omega,List.map_append]
  exact Vm (h.2 (by omega)) (h'.2 (by omega))
theorem JQ (z:List Pn):wy (z.map Prod.fst)=z.map fun p=>dL p.1:=by rw [wB,List.map_map];rfl
theorem Cf {z:List Pn} (h:∀ p∈z,u7 p):∀ t∈z.map (fun p=>dL p.1),Cn t:=fun t ht=>by
 obtain ⟨p,hp,rfl⟩:=List.mem_map.1 ht
 exact qA (h p hp)
theorem JR {k:Nat} {z:List Pn} (hz:∀ p∈z,u7 p) (h:Yi k z) (hne:z≠[]):Ii (if z.length=1 then k else k+1) (eU z):=by
 match z,hz,h,hne with
 | [],_,_,hne=>exact absurd rfl hne
 | [p],hz,h,_=>
  have:=h.1 p (List.mem_cons_self ..)
  show Ii k p
  refine ⟨this,fun hq=>?_⟩
  have h2:=h.2 (by simpa [dR] using hq)
  obtain ⟨u,L,q,g1,g2,g3,g4⟩:=h2
  simp only [dR,Int.add_zero,List.map_cons,List.map_nil,bC,Nat.add_zero] at g1 g2 g3
  exact ⟨u,L,q,g1,g2 _ (List.mem_cons_self ..),g3,g4⟩
 | p::p'::r,hz,h,_=>
  rw [if_neg (by simp)]
  have h0:=p_ h.1
  simp only [List.length_cons] at h0
  have e:eU (p::p'::r)=(.row ((p::p'::r).map Prod.fst),min (((p::p'::r).length:Int) - 1+dR (p::p'::r)) 61):=by simp [eU]
  rw [e]
  refine ⟨?_,fun hq=>?_⟩
  ·show 1<=min (((p::p'::r).length:Int) - 1+dR (p::p'::r)) 61
   simp only [List.length_cons];omega
  ·have hq':min (((p::p'::r).length:Int) - 1+dR (p::p'::r)) 61<=60:=hq
   show Pp _ (min (((p::p'::r).length:Int) - 1+dR (p::p'::r)) 61).toNat (dL (.row ((p::p'::r).map Prod.fst)))
   simp only [List.length_cons] at hq'
   rw [show (min (((p::p'::r).length:Int) - 1+dR (p::p'::r)) 61).toNat=(dR (p::p'::r)).toNat+(r.length+1) from by simp only [List.length_cons];omega,dL,JQ]
   exact Pq (h.2 (by omega)) (by simp) (Gz (by simp)) fun m hm=>Nb (Cf hz) hm
theorem JS {b:Bool} {k:Nat} {z:List Pn} (hz:∀ p∈z,u7 p) (h:Yi k z) (hne:z≠[]):Ii (if z.length=1 then k else k+1) (jB b z):=by
 match z,hz,h,hne with
 | [],_,_,hne=>exact absurd rfl hne
 | [p],hz,h,_=>
  have:=h.1 p (List.mem_cons_self ..)
  show Ii k p
  refine ⟨this,fun hq=>?_⟩
  have h2:=h.2 (by simpa [dR] using hq)
  obtain ⟨u,L,q,g1,g2,g3,g4⟩:=h2
  simp only [dR,Int.add_zero,List.map_cons,List.map_nil,bC,Nat.add_zero] at g1 g2 g3
  exact ⟨u,L,q,g1,g2 _ (List.mem_cons_self ..),g3,g4⟩
 | p::p'::r,hz,h,_=>
  rw [if_neg (by simp)]
  have h0:=p_ h.1
  simp only [List.length_cons] at h0
  have e:jB b (p::p'::r)=(.aW b ((p::p'::r).map Prod.fst),min (((p::p'::r).length:Int) - 1+dR (p::p'::r)) 61):=rfl
  rw [e]
  refine ⟨?_,fun hq=>?_⟩
  ·show 1<=min (((p::p'::r).length:Int) - 1+dR (p::p'::r)) 61
   simp only [List.length_cons];omega
  ·have hq':min (((p::p'::r).length:Int) - 1+dR (p::p'::r)) 61<=60:=hq
   show Pp _ (min (((p::p'::r).length:Int) - 1+dR (p::p'::r)) 61).toNat (dL (.aW b ((p::p'::r).map Prod.fst)))
   simp only [List.length_cons] at hq'
   rw [show (min (((p::p'::r).length:Int) - 1+dR (p::p'::r)) 61).toNat=(dR (p::p'::r)).toNat+(r.length+1) from by simp only [List.length_cons];omega,dL,JQ]
   exact Pq (h.2 (by omega)) (by simp) (JI (Cf hz) (by simp)) fun m hm=>JJ (Cf hz) hm
theorem Cg {n:Nat} {a:List Sy->bn Pn} (ha:fI a) (hw:WA 1 a):∀ (f:Nat) {z:List Pn} {l:List Sy} {k:Nat},bz l->Yi k z->∀ v l',aR n a f z l=.ok (v,l')->∃ k',l'.length+k'+v.length<=l.length+k+z.length/\Yi k' v/\z.length<=v.length
 | 0,_,_,_,_,_,_,_,h=>by simp only [aR,bad] at h;cases h
 | f+1,z,l,k,hl,hz,v,l',h=>by
  rw [aR] at h
  split at h
  ·cases h;exact ⟨k,Nat.le_refl _,hz,Nat.le_refl _⟩
  ·split at h
   ·cases h
   ·rename_i y l1 e
    obtain ⟨k1,h1,h2⟩:=GI (n:=n) ha hw _ l hl _ _ e
    have hl1:=(jo (n:=n) ha (l.length+1) hl _ _ e).2
    obtain ⟨k',h3,h4,h5⟩:=Cg ha hw f hl1 (Ce hz h2) v l' h
    rw [List.length_append] at h3 h5
    simp only [List.length_cons,List.length_nil] at h3 h5
    exact ⟨k',by omega,h4,by omega⟩
theorem abX {n:Nat} {a:List Sy->bn Pn} (ha:fI a) (hw:WA 1 a):WA 0 (rowP n a):=by
 intro l hl v l' h
 unfold rowP at h
 split at h
 ·cases h
  refine ⟨0,Nat.le_refl _,by decide,fun _=>Ac (by decide) ?_ ?_⟩<;>simp [eU,dL,wy,kP,bJ,hF]
 ·split at h
  ·cases h
  ·rename_i y l1 e
   obtain ⟨k1,h1,h2⟩:=GI (n:=n) ha hw _ l hl _ _ e
   obtain ⟨hy,hl1⟩:=jo (n:=n) ha (l.length+1) hl _ _ e
   have g:=mX (n:=n) ha (l1.length+1) (x_ hy) hl1
   cases e2:aR n a (l1.length+1) [y] l1 with
   | error x=>rw [e2] at h;cases h
   | ok r=>
    obtain ⟨v2,l2⟩:=r
    rw [e2] at h
    cases h
    obtain ⟨k',h3,h4,h5⟩:=Cg ha hw _ hl1 (GJ h2) _ _ e2
    simp only [List.length_cons,List.length_nil] at h3 h5
    have hm:=JR (g _ _ e2).1 h4 (by rintro rfl;simp at h5)
    refine ⟨_,?_,hm⟩
    split<;>omega
theorem Ch {n:Nat} {a:List Sy->bn Pn} (ha:fI a) (hw:WA 0 a) (sg:Int) (hsg:0<=sg):∀ (f:Nat) {z:List Pn} {l:List Sy} {k:Nat},bz l->Yi k z->∀ v l',aX n a sg f z l=.ok (v,l')->∃ k',l'.length+k'+v.length<=l.length+k+z.length/\Yi k' v/\z.length<=v.length
 | 0,_,_,_,_,_,_,_,h=>by simp only [aX,bad] at h;cases h
 | f+1,z,l,k,hl,hz,v,l',h=>by
  rw [aX] at h
  split at h
  ·rename_i q
   have h0:=eZ (l:=l) (by omega)
   split at h
   ·cases h
   ·rename_i y l1 e
    obtain ⟨k1,h1,h2⟩:=hw l.tail hl.tail _ _ e
    have hl1:=(ha l.tail hl.tail _ _ e).2
    obtain ⟨k',h3,h4,h5⟩:=Ch ha hw sg hsg f hl1 (Ce hz h2) v l' h
    rw [List.length_append] at h3 h5
    simp only [List.length_cons,List.length_nil] at h3 h5
    exact ⟨k',by omega,h4,by omega⟩
  ·cases h;exact ⟨k,Nat.le_refl _,hz,Nat.le_refl _⟩
theorem Vr {n:Nat} {a:List Sy->bn Pn} (ha:fI a) (hw:WA 0 a) (sg:Int) (hsg:0<=sg) (b:Bool):WA 0 (ma n a sg (jB b)):=by
 intro l hl v l' h
 unfold ma at h
 split at h
 ·cases h
 ·rename_i y l1 e
  obtain ⟨k1,h1,h2⟩:=hw l hl _ _ e
  obtain ⟨hy,hl1⟩:=ha l hl _ _ e
  have g:=mY (n:=n) ha sg (l1.length+1) (x_ hy) hl1
  cases e2:aX n a sg (l1.length+1) [y] l1 with
  | error x=>rw [e2] at h;cases h
  | ok r=>
   obtain ⟨v2,l2⟩:=r
   rw [e2] at h
   cases h
   obtain ⟨k',h3,h4,h5⟩:=Ch ha hw sg hsg _ hl1 (GJ h2) _ _ e2
   simp only [List.length_cons,List.length_nil] at h3 h5
   have hm:=JS (b:=b) (g _ _ e2).1 h4 (by rintro rfl;simp at h5)
   refine ⟨_,?_,hm⟩
   split<;>omega
theorem E_ {n:Nat} {a:List Sy->bn Pn} (ha:fI a) (hw:WA 1 a):WA 0 (bU n a):=
 Vr (tT ha) (Vr (good_row ha) (abX ha hw) 38 (by decide) true) 124 (by decide) false
theorem PD {n:Nat}:∀ k:Nat,WA 1 (bH n k)
 | 0=>by
  intro l hl v l' h
  rw [bH] at h
  split at h
  ·simp only [bad] at h;cases h
  ·exact GH v l' h
 | k+1=>by
  intro l hl v l' h
  rw [bH] at h
  split at h
  ·rename_i q
   have h0:=eZ (l:=l) (by omega)
   unfold DZ at h
   split at h
   ·cases h
   ·rename_i z l1 e
    obtain ⟨k1,h1,h2⟩:=E_ (n:=n) (ky k) (PD k) l.tail hl.tail _ _ e
    split at h
    ·rename_i q2
     have h3:=eZ (l:=l1) (by omega)
     cases h
     exact ⟨k1,by omega,h2⟩
    ·simp only [bad] at h;cases h
  ·exact GH v l' h
theorem Vs {s:ByteArray} {q:Pt} (h:aZ s=.ok q):∃ u L,bJ (dL q)+3<=60*(3+u)/\hF false Option.none (dL q)<=L+5/\L+3*u<=60:=by
 unfold aZ at h
 split at h
 ·cases h
 ·rename_i hs
  unfold nR at h
  split at h
  ·cases h
  ·rename_i z l e
   obtain ⟨k,h1,h2⟩:=E_ (n:=s.size) (ky 8) (PD 8) _ (kQ s 0) _ _ e
   split at h
   ·split at h
    ·cases h
    ·rename_i hz
     cases h
     obtain ⟨u,L,q,g1,g2,g3,g4⟩:=h2.2 (by omega)
     have hlen:(af s 0).length<=s.size - 0:=uN s _ _
     have aeD:z.2.toNat<=60:=by omega
     have hq:q<=5:=by
      rcases Nat.lt_or_ge q 6 with hh | hh
      ·omega
      ·have:2 ^ 6<=2 ^ q:=Nat.pow_le_pow_right (by omega) hh
       omega
     refine ⟨u,L,Nat.le_trans g1 (Nat.mul_le_mul_right _ aeD),by omega,by omega⟩
   ·cases h
theorem Fa {s:ByteArray} {q:Pt} (h:aZ s=.ok q) {L:List Int} (hL:L.length<=60):wV (Ca (dL q) (sG L))<=600000000000/\bJ (dL q)<=1380:=by
 obtain ⟨u,Lv,h1,h2,h3⟩:=Vs h
 have hu:u<=20:=by omega
 refine ⟨?_,by omega⟩
 have hb:=Zn (t:=dL q) (X:=sG L) (n:=1830) (h:=65 - 3*u) (z:=60*(3+u)) (M_ hL) (by omega) (by omega)
 refine Nat.le_trans hb ?_
 clear hb h1 h2 h3
 have:∀ u:Fin 21,1830*(((65 - 3*u.val)*(60*(3+u.val)))*125+(2*(60*(3+u.val))+1)*68)+1830*((2*((65 - 3*u.val)*(60*(3+u.val)))+(2*(60*(3+u.val))+1))*(5*(60*(3+u.val))+9))<=600000000000:=by decide
 exact this ⟨u,by omega⟩
end Go.Proofs.YtfolanohokflkaaGreatDoor
namespace Go.Proofs.YtfolanohokflkaaGreatDoor
open Tm (eps)
def adE (B:List Int) (c d:Int):Prop:=∀ b∈B,b<=c↔b<=d
def cu (B:List Int) (s:ah):Prop:=∀ c d,aD c=true->aD d=true->adE B c d->dD s c=dD s d
def gy (B:List Int):Tm->Prop
 | .set l=>cu B l
 | .eps=>True
 | .chain a b=>gy B a/\gy B b
 | .star a=>gy B a
 | .not a=>gy B a
 | .aW _ a b=>gy B a/\gy B b
theorem cu.mono {B B':List Int} {s:ah} (h:cu B s) (hb:∀ b∈B,b∈B'):cu B' s:=fun c d hc hd hs=>h c d hc hd fun b hb'=>hs b (hb b hb')
theorem gT (B:List Int):cu B []:=fun _ _ _ _ _=>rfl
theorem yo {B:List Int} {a b:ah} (ha:Pos a) (hb:Pos b) (h1:cu B a) (h2:cu B b):cu B (q9 a b):=fun c d hc hd hs=>by rw [oF ha hb hc,oF ha hb hd,h1 c d hc hd hs,h2 c d hc hd hs]
theorem R7 {B:List Int} {a b:ah} (ha:Pos a) (hb:Pos b) (h1:cu B a) (h2:cu B b):cu B (IL a b):=fun c d hc hd hs=>by rw [vW ha hb hc,vW ha hb hd,h1 c d hc hd hs,h2 c d hc hd hs]
theorem uh {B:List Int} {a:ah} (ha:Pos a) (h1:cu B a):cu B (fU a):=fun c d hc hd hs=>by rw [kK ha hc,kK ha hd,h1 c d hc hd hs]
theorem Vt {B:List Int} (k:Bool) {a b:ah} (ha:Tidy a) (hb:Tidy b) (h1:cu B a) (h2:cu B b):cu B (gW k a b):=by
 cases k
 ·exact yo ha.pos hb.pos h1 h2
 ·exact R7 ha.pos hb.pos h1 h2
theorem opS_tidy' (k:Bool) {a b:ah} (ha:Tidy a) (hb:Tidy b):Tidy (gW k a b):=by
 cases k
 ·exact jl ha.pos hb.pos
 ·exact xS ha.pos hb.pos
theorem j4 {B:List Int} {k:Bool}:∀ {l:List ah} {s:ah},(∀ x∈l,Tidy x/\cu B x)->Tidy s->cu B s->Tidy (l.foldl (gW k) s)/\cu B (l.foldl (gW k) s)
 | [],_,_,h1,h2=>⟨h1,h2⟩
 | x::l,s,h,h1,h2=>by
  have hx:=h x (List.mem_cons_self ..)
  exact j4 (l:=l) (fun y hy=>h y (List.mem_cons_of_mem _ hy)) (opS_tidy' k h1 hx.1) (Vt k h1 hx.1 h2 hx.2)
theorem Zt {B:List Int} {k:Bool}:∀ {t:Tm},gy B t->∀ m∈memT k t,gy B m:=by
 intro t
 induction t with
 | aW k' a b _ ih=>
  intro h m hm
  rw [memT] at hm
  split at hm
  ·rcases List.mem_cons.1 hm with rfl | hm
   ·exact h.1
   ·exact ih h.2 m hm
  ·have:m=.aW k' a b:=by simpa using hm
   subst this;exact h
 | _=>
  intro h m hm
  simp [memT] at hm
  subst hm;exact h
theorem JU {B:List Int} {k:Bool}:∀ {l:List Tm},(∀ m∈l,gy B m)->gy B (gX k l)
 | [],_=>gT B
 | [a],h=>h a (List.mem_cons_self ..)
 | a::b::l,h=>by
  rw [jb k a (by simp)]
  exact ⟨h a (List.mem_cons_self ..),JU fun m hm=>h m (List.mem_cons_of_mem _ hm)⟩
theorem R8 {B:List Int} {k:Bool} {l:List Tm} (hl:∀ t∈l,Cn t) (h:∀ t∈l,gy B t):gy B (aj k l):=by
 unfold aj oV
 split
 ·cases k<;>exact gT B
 split
 ·cases k<;>exact gT B
 ·refine JU fun m hm=>?_
  have hF:∀ m∈l.flatMap (memT k),gy B m:=fun m hm=>by
   obtain ⟨d,hd,hm⟩:=List.mem_flatMap.1 hm
   exact Zt (h d hd) m hm
  have hok:=jW (k:=k) hl
  rcases aN.1 (List.mem_filter.1 hm).1 with ⟨q,_⟩ | ⟨s,hs,rfl⟩
  ·exact hF m q
  ·cases hq:(l.flatMap (memT k)).filterMap aP with
   | nil=>rw [hq] at hs;cases hs
   | cons a r=>
    rw [hq] at hs
    simp only [f_,Option.some.injEq] at hs
    subst hs
    have hall:∀ x∈a::r,Tidy x/\cu B x:=fun x hx=>⟨hok (.set x) (b_.1 (hq▸hx)),hF (.set x) (b_.1 (hq▸hx))⟩
    exact (j4 (fun x hx=>hall x (List.mem_cons_of_mem _ hx)) (hall a (List.mem_cons_self ..)).1 (hall a (List.mem_cons_self ..)).2).2
theorem JV {a b:Int}:cu [a,b+1] [(a,b)]:=by
 intro c d _ _ hs
 have h1:=hs a (by simp)
 have h2:=hs (b+1) (by simp)
 simp only [dD,List.any_cons,List.any_nil,Bool.or_false]
 rw [Bool.eq_iff_iff]
 simp only [Bool.and_eq_true,decide_eq_true_eq]
 omega
theorem Nc {B B':List Int} {x:Int×Int} {l:ah} (h1:cu B [x]) (h2:cu B' l):cu (B++B') (x::l):=by
 intro c d hc hd hs
 have e1:=h1 c d hc hd fun b hb=>hs b (List.mem_append_left _ hb)
 have e2:=h2 c d hc hd fun b hb=>hs b (List.mem_append_right _ hb)
 simp only [dD,List.any_cons,List.any_nil,Bool.or_false] at e1 e2 ⊢
 rw [e1,e2]
def JW:ah->List Int
 | []=>[]
 | x::l=>[x.1,x.2+1]++JW l
theorem Fb:∀ l:ah,(JW l).length=2*l.length
 | []=>rfl
 | x::l=>by rw [JW,List.length_append,Fb l];simp;omega
theorem Ci:∀ l:ah,cu (JW l) l
 | []=>gT _
 | _::l=>Nc JV (Ci l)
def BS (k:Nat) (s:ah):Prop:=∃ B:List Int,B.length<=8*k/\cu B s
theorem BS.cup {k k':Nat} {a b:ah} (ha:Pos a) (hb:Pos b) (h:BS k a) (h':BS k' b):BS (k+k') (q9 a b):=by
 obtain ⟨B,l1,h1⟩:=h
 obtain ⟨B',l2,h2⟩:=h'
 exact ⟨B++B',by rw [List.length_append];omega,yo ha hb (h1.mono fun b hb=>List.mem_append_left _ hb) (h2.mono fun b hb=>List.mem_append_right _ hb)⟩
theorem yt {s:ah} (h:s.length<=4):BS 1 s:=⟨JW s,by rw [Fb];omega,Ci s⟩
theorem PE (l:List Sy):(iF l).length<=4:=by unfold iF;split<;>simp [zX,wE]
theorem Vu {n:Nat} {l l':List Sy} {c:Int} (h:fe n l=.ok (c,l')):l'.length+1<=l.length:=by
 unfold fe at h
 split at h
 ·rename_i q
  have:=eZ (l:=l) (by omega)
  have:=vv h
  omega
 ·split at h
  ·simp only [bad] at h;cases h
  ·rename_i q
   have:=eZ (l:=l) (by omega)
   cases h;omega
theorem Zu {n:Nat} {l l':List Sy} {s:ah} (h:jA n l=.ok (s,l')):l'.length+1<=l.length/\BS 1 s:=by
 unfold jA at h
 split at h
 ·rename_i q
  have q2:hd l=92:=by simp only [isSet,decide_eq_true_eq] at q;exact q.1
  have:=eZ (l:=l) (by omega)
  have:=di l.tail
  cases h
  exact ⟨by omega,yt (PE l)⟩
 ·split at h
  ·cases h
  ·rename_i a l1 e
   have h1:=Vu e
   split at h
   ·split at h
    ·cases h
    ·rename_i b l2 e2
     have h2:=ym e2
     have h3:=di l1
     split at h
     ·simp only [bad] at h;cases h
     ·cases h;exact ⟨by omega,yt (by simp)⟩
   ·cases h;exact ⟨h1,yt (by simp)⟩
theorem qF {n:Nat}:∀ (f:Nat) {s s':ah} {l l':List Sy} {k:Nat},bz l->Tidy s->BS k s->bB n f s l=.ok (s',l')->∃ k',l'.length+k'<=l.length+k/\BS k' s'
 | 0,_,_,_,_,_,_,_,_,h=>by simp only [bB,bad] at h;cases h
 | f+1,s,s',l,l',k,ha,ht,hs,h=>by
  rw [bB] at h
  split at h
  ·cases h
   exact ⟨k,by have:=di l;omega,hs⟩
  ·split at h
   ·cases h
   ·rename_i p l1 e
    obtain ⟨h1,h2⟩:=Zu e
    obtain ⟨hp,hl1⟩:=EB (n:=n) ha _ _ e
    obtain ⟨k',h3,h4⟩:=qF f hl1 (jl ht.pos hp) (hs.cup ht.pos hp h2) h
    exact ⟨k',by omega,h4⟩
theorem Zv {n:Nat} {s:ah} {l l':List Sy} (ha:bz l) (h:eB n l=.ok (s,l')):∃ k,l'.length+k<=l.length/\BS k s:=by
 have hlen:=JN h
 unfold eB at h
 split at h
 ·unfold iG at h
  have t1:=di l
  split at h
  ·unfold Bv at h
   split at h
   ·cases h
   ·rename_i s1 l1 e
    obtain ⟨k,h1,h2⟩:=qF _ (s:=[]) (k:=0) ha.tail.tail trivial ⟨[],by simp,gT _⟩ e
    have hg:=(kR (n:=n) _ (s:=[]) trivial ha.tail.tail _ _ e).1
    cases h
    obtain ⟨B,b1,b2⟩:=h2
    exact ⟨k,by have:=di l.tail;omega,B,b1,uh hg.pos b2⟩
  ·obtain ⟨k,h1,h2⟩:=qF _ (s:=[]) (k:=0) ha.tail trivial ⟨[],by simp,gT _⟩ h
   exact ⟨k,by omega,h2⟩
 split at h
 ·split at h
  ·cases h
   exact ⟨1,hlen,yt (PE l)⟩
  ·unfold RB at h
   split at h
   ·cases h
   ·cases h
    exact ⟨1,hlen,yt (by simp)⟩
 split at h
 ·cases h
  exact ⟨0,by omega,[],by simp,uh oG (gT _)⟩
 split at h
 ·simp only [bad] at h;cases h
 ·cases h
  exact ⟨1,hlen,yt (by simp)⟩
end Go.Proofs.YtfolanohokflkaaGreatDoor
