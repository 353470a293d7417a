import Derived.Test.YtfolanohokflkaaGreatDoorLnJ
import Derived.Test.YtfolanohokflkaaGreatDoorPSpec
namespace Go.Proofs.YtfolanohokflkaaGreatDoor
open Tm (eps)
def nN (c:Int):Tm->Nat
 | .chain a b=>dQ (aL c a)+(memT false (aL c (.chain a b))).length+2
 | .star a=>dQ (aL c a)
 | .not _=>1
 | .bf k a b=>(memT k (aL c (.bf k a b))).length+2
 | _=>0
def kB (h:Tm):Nat:=(2*bF h+1)*62+bF h+6
def kA (t:Tm):Nat:=5*bF t+9
abbrev Gx:=(Tm×Int)×Nat
def acp (t:Tm) (X:List (List Int×Int)):List Gx:=(DR t).flatMap fun p=>X.map fun x=>((aJ p.1 x.1,x.2),kB p.1)
def acr (t:Tm) (X:List (List Int×Int)):List Gx:=(DR t).flatMap fun s=>(DR s.1).flatMap fun p=>X.map fun x=>((ay (aJ p.1 x.1) p.2,x.2),kA t)
def BQ (t:Tm) (X:List (List Int×Int)):List Gx:=acp t X++acr t X
theorem acs {h:Tm} (hh:Cn h) {v:List Int} {c:Int} (hw:iq (v++[c])) (hl:v.length<=60) (hc:bG (aJ h v)=false):nN c (aJ h v)<=kB h:=by
 have hb:=fun k=>acn hh hw k
 have hm:(2*bF h+1)*(v.length+2)<=(2*bF h+1)*62:=Nat.mul_le_mul_left _ (by omega)
 unfold kB
 cases hx:aJ h v with
 | chain a b=>rw [hx] at hc;cases hc
 | set l=>simp [nN]
 | eps=>simp [nN]
 | not a=>simp only [nN];omega
 | bf k a b=>
  have:=hb k
  rw [hx] at this
  simp only [nN]
  omega
 | star a=>
  have ha:a∈dm h:=uR v hh (by rw [hx];exact List.mem_cons_self ..)
  obtain ⟨z',p⟩:=JC _ (Nat.le_refl _) eps ha
  have pa:=p.trans (.star (.here _ _))
  have h1:=spine (pa.cn hh trivial).1 (u:=[c]) (fun d hd=>hw d (List.mem_append_right _ hd))
  have h2:=pa.nz
  have e:aJ a [c]=aL c a:=rfl
  rw [e] at h1
  simp only [nN]
  omega
theorem acu {t y:Tm} (ht:Cn t) {w:List Int} {c:Int} (hw:iq (w++[c])) (hl:w.length<=60) {X:List (List Int×Int)} (hX:∀ v,v <:+ w->(v,c)∈X) (h:Hw (aJ t w) y):b_ y=true\/∃ k,((y,c),k)∈BQ t X/\nN c y<=k:=by
 rcases EW _ (Nat.le_refl _) ht w hw.left y h with q | ⟨s,z0,p0,h0,z,v,p,hvw,e,hc,he⟩
 ·exact .inl q
 have hs:=(p0.cn ht trivial).1
 have hh:=(p.cn hs trivial).1
 have Xg:iq (v++[c]):=by
  obtain ⟨q,rfl⟩:=hvw
  intro d hd
  refine hw d ?_
  rw [List.append_assoc]
  exact List.mem_append_right _ hd
 have hvl:v.length<=60:=Nat.le_trans hvw.length_le hl
 by_cases ib:z=eps
 ·subst ib
  rw [ai] at e
  subst e
  have pc:=p0.comp ht p
  exact .inr ⟨kB h0,List.mem_append_left _ (List.mem_flatMap.2 ⟨_,pc.listed,List.mem_map.2 ⟨(v,c),hX v hvw,rfl⟩⟩),acs hh Xg hvl hc⟩
 by_cases ug:aJ h0 v=aH
 ·rw [ug,aS] at e
  subst e
  exact .inl rfl
 have hz:=(p.follow hs trivial (by simp)).1
 have e0:=bC hc ug he hz ib
 refine .inr ⟨kA t,List.mem_append_right _ (List.mem_flatMap.2 ⟨_,p0.listed,List.mem_flatMap.2 ⟨_,p.listed,List.mem_map.2 ⟨(v,c),hX v hvw,by rw [e]⟩⟩⟩),?_⟩
 rw [e,e0]
 have h1:=aco hs Xg p ib hc he ug
 have h2:=spine hh Xg
 rw [je] at h2
 have h3:=p.nz
 have h4:=p0.nz
 simp only [nN,kA]
 omega
def wI (G:List Gx):Nat:=bA (G.map (·.2))
theorem JF (a b:List Gx):wI (a++b)=wI a+wI b:=by unfold wI;rw [List.map_append,kQ]
theorem uS {α:Type} (f:α->Tm×Int) (k:Nat):∀ l:List α,wI (l.map fun x=>(f x,k))=l.length*k
 | []=>by simp [wI,bA]
 | a::l=>by
  have:=uS f k l
  unfold wI at this ⊢
  simp only [List.map_cons,bA,List.length_cons,this,Nat.add_mul,Nat.one_mul]
  omega
theorem sZ {α:Type} (f:α->List Gx) (g:α->Nat):∀ l:List α,(∀ a∈l,wI (f a)<=g a)->wI (l.flatMap f)<=bA (l.map g)
 | [],_=>by simp [wI,bA]
 | a::l,h=>by
  have h1:=h a (List.mem_cons_self ..)
  have h2:=sZ f g l fun b hb=>h b (List.mem_cons_of_mem _ hb)
  rw [List.flatMap_cons,JF,List.map_cons,bA]
  omega
theorem wJ {α:Type} (g:α->Nat) (a b:Nat):∀ l:List α,bA (l.map fun x=>g x*a+b)=bA (l.map g)*a+l.length*b
 | []=>by simp [bA]
 | x::l=>by
  have:=wJ g a b l
  simp only [List.map_cons,bA,List.length_cons,this,Nat.add_mul,Nat.one_mul]
  omega
theorem Yo {t:Tm} {X:List (List Int×Int)} {n h z:Nat} (hX:X.length<=n) (hh:hF false Option.none t<=h) (hz:bF t<=z):wI (BQ t X)<=n*((h*z)*125+(2*z+1)*68)+n*((2*(h*z)+(2*z+1))*(5*z+9)):=by
 have hs:=nM false Option.none t eps
 have hl:=kP false Option.none t eps
 have hS:hF false Option.none t*bF t<=h*z:=Nat.mul_le_mul hh hz
 generalize hS0:bA ((DR t).map fun p=>bF p.1)=S at hs
 have acv:S<=h*z:=Nat.le_trans hs hS
 have acw:(DR t).length<=2*z+1:=by have:(DR t).length<=2*bF t+1:=hl;omega
 unfold BQ
 rw [JF]
 refine Nat.add_le_add ?_ ?_
 ·refine Nat.le_trans (sZ _ (fun p:Tm×Tm=>(bF p.1*125+68)*n) _ fun p _=>?_) ?_
  ·rw [uS,Nat.mul_comm]
   exact Nat.mul_le_mul (by unfold kB;omega) hX
  ·have e:(fun p:Tm×Tm=>(bF p.1*125+68)*n)=fun p:Tm×Tm=>bF p.1*(125*n)+68*n:=by
    funext p;rw [Nat.add_mul,Nat.mul_assoc]
   rw [e,wJ (fun p:Tm×Tm=>bF p.1),hS0]
   have h1:S*(125*n)<=(h*z)*(125*n):=Nat.mul_le_mul_right _ acv
   have h2:(DR t).length*(68*n)<=(2*z+1)*(68*n):=Nat.mul_le_mul_right _ acw
   refine Nat.le_trans (Nat.add_le_add h1 h2) (Nat.le_of_eq ?_)
   rw [Nat.mul_add,Nat.mul_comm n,Nat.mul_comm n,Nat.mul_assoc (h*z),Nat.mul_assoc (2*z+1)]
 ·refine Nat.le_trans (sZ _ (fun s:Tm×Tm=>(2*bF s.1+1)*(n*(5*z+9))) _ fun s _=>?_) ?_
  ·refine Nat.le_trans (sZ _ (fun _:Tm×Tm=>n*(5*z+9)) _ fun p _=>?_) ?_
   ·rw [uS]
    exact Nat.mul_le_mul hX (by unfold kA;omega)
   ·have e:=wJ (fun _:Tm×Tm=>0) 0 (n*(5*z+9)) (DR s.1)
    simp only [Nat.mul_zero,Nat.zero_add] at e
    rw [e]
    exact Nat.mul_le_mul_right _ (kP _ _ _ _)
  ·have e:(fun s:Tm×Tm=>(2*bF s.1+1)*(n*(5*z+9)))=fun s:Tm×Tm=>bF s.1*(2*(n*(5*z+9)))+n*(5*z+9):=by
    funext s;rw [Nat.add_mul,Nat.one_mul,Nat.mul_comm 2,Nat.mul_assoc]
   rw [e,wJ (fun p:Tm×Tm=>bF p.1),hS0]
   have h1:S*(2*(n*(5*z+9)))<=(h*z)*(2*(n*(5*z+9))):=Nat.mul_le_mul_right _ acv
   have h2:(DR t).length*(n*(5*z+9))<=(2*z+1)*(n*(5*z+9)):=Nat.mul_le_mul_right _ acw
   refine Nat.le_trans (Nat.add_le_add h1 h2) (Nat.le_of_eq ?_)
   generalize 5*z+9=q
   generalize 2*z+1=r
   generalize h*z=x
   rw [Nat.add_mul,Nat.mul_add]
   congr 1
   ·rw [Nat.mul_left_comm x 2,<-Nat.mul_assoc 2,Nat.mul_left_comm (2*x) n,Nat.mul_assoc 2,Nat.mul_left_comm n 2,Nat.mul_left_comm n x]<;>omega
   ·rw [Nat.mul_left_comm]
def xW (pre:List Int):List Int->List (List Int×Int)
 | []=>[]
 | c::r=>((DN pre).map fun v=>(v,c))++xW (pre++[c]) r
theorem BR:∀ (r pre:List Int),2*(xW pre r).length=r.length*(2*pre.length+r.length+1)
 | [],_=>by simp [xW]
 | c::r,pre=>by
  have:=BR r (pre++[c])
  rw [xW,List.length_append,List.length_map,wH,List.length_cons,Nat.mul_add,this,List.length_append]
  simp only [List.length_cons,List.length_nil,Nat.zero_add]
  generalize r.length=n
  generalize pre.length=m
  rw [show 2*(m+1)+n+1=(2*m+(n+1)+1)+1 from by omega,Nat.mul_add n _ 1,Nat.add_mul n 1]
  omega
theorem BU {v:List Int} {c:Int}:∀ (a b pre:List Int),v <:+ pre++a->(v,c)∈xW pre (a++c::b)
 | [],b,pre,h=>by
  rw [List.append_nil] at h
  exact List.mem_append_left _ (List.mem_map.2 ⟨v,rO h,rfl⟩)
 | d::a,b,pre,h=>by
  refine List.mem_append_right _ (BU a b (pre++[d]) ?_)
  simpa using h
def rR (L:List Int):List (List Int×Int):=xW [] L
theorem MK {L:List Int} (h:L.length<=60):(rR L).length<=1830:=by
 have:=BR L []
 simp only [List.length_nil,Nat.mul_zero,Nat.zero_add] at this
 have h2:L.length*(L.length+1)<=60*61:=Nat.mul_le_mul h (by omega)
 unfold rR
 omega
theorem ML {L a b v w:List Int} {c:Int} (e:L=a++c::b) (hw:w <:+ a) (hv:v <:+ w):(v,c)∈rR L:=by
 rw [e];exact BU a b [] (by simpa using hv.trans hw)
end Go.Proofs.YtfolanohokflkaaGreatDoor
namespace Go.Proofs.YtfolanohokflkaaGreatDoor
open Tm (eps)
theorem acx {t:Tm} (h:bG t=false):hF true Option.none t=hF false Option.none t:=by cases t<;>first | rfl | cases h
theorem acy (t:Tm):hF false Option.none t<=hF true Option.none t+1:=by
 cases t with
 | chain a b=>simp only [hF];simp
 | _=>exact Nat.le_succ _
theorem acz (t:Tm):hF true Option.none t<=hF false Option.none t:=by
 cases t with
 | chain a b=>simp only [hF];simp
 | _=>exact Nat.le_refl _
theorem Z7 (k:Bool) (t:Tm):hF false (some k) t<=hF false Option.none t:=by
 cases t with
 | bf k' a b=>simp only [hF];split<;>simp
 | _=>exact Nat.le_refl _
theorem Yp {k:Bool} {t:Tm} (h:dF k t=true):hF false (some k) t=hF false Option.none t:=by
 cases t with
 | bf k' a b=>
  have:k'≠k:=by simpa [dF] using h
  simp [hF,Ne.symm this]
 | _=>rfl
theorem UE {k:Bool} {m:Tm}:∀ (t:Tm),m∈memT k t->dF k m=true->hF false Option.none m<=hF false (some k) t
 | t,h,hm=>by
  rcases iR k t with ⟨a,b,rfl⟩ | hn
  ·rw [g_] at h
   simp only [hF,if_true,Nat.add_zero]
   rcases List.mem_cons.1 h with rfl | h
   ·exact Nat.le_max_left _ _
   ·exact Nat.le_trans (UE b h hm) (Nat.le_max_right _ _)
  ·rw [bn hn] at h
   have:m=t:=by simpa using h
   subst this
   rw [Yp hn];exact Nat.le_refl _
theorem Ri:∀ (u z:Tm),bF (ay u z)<=bF u+bF z+1:=by
 intro u
 induction u with
 | chain a b iha ihb=>
  intro z
  have h1:=iha (ay b z)
  have h2:=ihb z
  rw [ay]
  split
  ·simp only [bF];omega
  ·split
   ·simp only [bF];omega
   ·simp only [bF];omega
 | _=>
  intro z
  simp only [ay]
  repeat' split
  all_goals simp only [bF]
  all_goals omega
theorem Rj {n:Nat}:∀ (u z:Tm),Cn u->hF true Option.none u<=n->hF true Option.none z<=n->hF true Option.none (ay u z)<=n:=by
 intro u
 induction u with
 | chain a b iha ihb=>
  intro z hu h1 h2
  simp only [hF,if_true,Nat.add_zero] at h1
  have ha:hF true Option.none a<=n:=by rw [acx hu.2.2.1];omega
  have hb:hF true Option.none b<=n:=by omega
  have h3:=ihb z hu.2.1 hb h2
  have h4:=iha _ hu.1 ha h3
  rw [ay]
  split
  ·simp [hF]
  ·split
   ·simp only [hF,if_true,Nat.add_zero];omega
   ·exact h4
 | _=>
  intro z _ h1 h2
  simp only [ay]
  simp only [hF] at h1
  repeat' split
  all_goals try simp only [hF,if_true,Nat.add_zero] at *
  all_goals omega
theorem Gv:∀ {l:List Tm},l≠[]->bF (kF l)+1<=bA (l.map fun t=>bF t+1)
 | [],h=>absurd rfl h
 | [a],_=>by simp [kF,ai,bA]
 | a::b::l,_=>by
  have ih:=Gv (l:=b::l) (by simp)
  have h1:=Ri a (kF (b::l))
  rw [List.map_cons,bA]
  show bF (ay a (kF (b::l)))+1<=_
  omega
theorem UF {n:Nat}:∀ {l:List Tm},(∀ t∈l,Cn t)->(∀ t∈l,hF false Option.none t<=n)->hF true Option.none (kF l)<=n
 | [],_,_=>by simp [kF,hF]
 | a::l,hc,h=>Rj a (kF l) (hc a (List.mem_cons_self ..)) (Nat.le_trans (acz a) (h a (List.mem_cons_self ..))) (UF (fun t ht=>hc t (List.mem_cons_of_mem _ ht)) fun t ht=>h t (List.mem_cons_of_mem _ ht))
theorem MM {n:Nat} {l:List Tm} (hc:∀ t∈l,Cn t) (h:∀ t∈l,hF false Option.none t<=n):hF false Option.none (kF l)<=n+1:=by
 have:=acy (kF l)
 have:=UF hc h
 omega
theorem OD (a:Tm):bF (gY a)<=bF a+1:=by
 unfold gY
 split
 ·simp [bF]
 ·cases a<;>simp [bF]
theorem Yq (a:Tm):hF false Option.none (gY a)<=hF false Option.none a+1:=by
 unfold gY
 split
 ·simp [hF]
 ·cases a<;>simp [hF]
theorem aaU (a:Tm):bF (kg a)<=bF a+1:=by cases a<;>simp [kg,bF]<;>omega
theorem aaV (a:Tm):hF false Option.none (kg a)<=hF false Option.none a+1:=by
 cases a with
 | not x=>simp only [kg,hF];omega
 | _=>simp [kg,hF]
theorem UG (k:Bool) (t:Tm):bA ((memT k t).map fun m=>bF m+1)=bF t+1:=by
 induction t with
 | bf k' a b _ ih=>
  by_cases e:k'=k
  ·subst e
   rw [g_,List.map_cons,bA,ih]
   simp only [bF];omega
  ·rw [memT,if_neg e];simp [bA]
 | _=>simp [memT,bA]
theorem OE (k:Bool):∀ {l:List Tm},l≠[]->bF (gZ k l)+1=bA (l.map fun m=>bF m+1)
 | [],h=>absurd rfl h
 | [a],_=>by simp [gZ,bA]
 | a::b::l,_=>by
  have ih:=OE k (l:=b::l) (by simp)
  rw [iT k a (by simp),List.map_cons,bA,<-ih]
  simp only [bF];omega
theorem Gw (k:Bool):∀ l:List Tm,bA ((l.flatMap (memT k)).map fun m=>bF m+1)=bA (l.map fun m=>bF m+1)
 | []=>rfl
 | a::l=>by rw [List.flatMap_cons,List.map_append,kQ,UG,Gw k l,List.map_cons,bA]
theorem Gy {α:Type} [DecidableEq α] (f:α->Nat):∀ {l m:List α},l.Nodup->(∀ x∈l,x∈m)->bA (l.map f)<=bA (m.map f)
 | [],_,_,_=>Nat.zero_le _
 | a::l,m,hn,hs=>by
  have hn':=List.nodup_cons.1 hn
  have ha:=hs a (List.mem_cons_self ..)
  have ih:=Gy f (l:=l) (m:=m.erase a) hn'.2 fun x hx=>by
   have hne:x≠a:=by rintro rfl;exact hn'.1 hx
   exact (List.mem_erase_of_ne hne).2 (hs x (List.mem_cons_of_mem _ hx))
  have e:∀ m:List α,a∈m->bA (m.map f)=f a+bA ((m.erase a).map f):=by
   intro m
   induction m with
   | nil=>intro h;cases h
   | cons b m ih=>
    intro h
    rw [List.erase_cons]
    split
    ·rename_i q
     rw [eq_of_beq q];rfl
    ·rename_i q
     have:a∈m:=by
      rcases List.mem_cons.1 h with e | h
      ·exact absurd (by rw [e];simp) q
      ·exact h
     rw [List.map_cons,bA,ih this,List.map_cons,bA];omega
  rw [List.map_cons,bA,e m ha]
  omega
theorem JG {k:Bool} {l:List Tm} (hl:∀ t∈l,Cn t) (h2:2<=l.length):bF (aj k l)+1<=bA (l.map fun m=>bF m+1):=by
 have hbig:∀ l:List Tm,l.length<=bA (l.map fun m=>bF m+1):=fun l=>by
  induction l with
  | nil=>simp [bA]
  | cons a l ih=>rw [List.map_cons,bA,List.length_cons];omega
 have htr:∀ t:Tm,b_ t=true->bF t+1<=bA (l.map fun m=>bF m+1):=fun t ht=>by
  have:=hbig l
  have:bF t<=1:=by
   cases t with
   | not a=>cases a with
    | set s=>cases s<;>simp [bF]
    | _=>simp [b_] at ht
   | set s=>simp [bF]
   | eps=>simp [bF]
   | _=>simp [b_] at ht
  omega
 have hok:∀ t∈l.flatMap (memT k),jX t:=jJ hl
 rw [<-Gw k]
 rw [<-Gw k] at htr
 generalize hF:l.flatMap (memT k)=F at *
 have ady:∀ L:List Tm,L≠[]->L.Nodup->(∀ m∈L,m∈aV k F)->bF (gZ k L)+1<=bA (F.map fun m=>bF m+1):=by
  intro L hne hn hs
  rw [OE k hne]
  cases hf:fJ k (F.filterMap aR) with
  | none=>
   refine Gy _ hn fun x hx=>?_
   rcases aP.1 (hs x hx) with ⟨h,_⟩ | ⟨s,h,_⟩
   ·exact h
   ·rw [hf] at h;cases h
  | some s=>
   obtain ⟨s0,hs0⟩:=wF hf
   have e:L.map (fun m=>bF m+1)=(L.map fun m=>if m=.set s then .set s0 else m).map fun m=>bF m+1:=by
    rw [List.map_map]
    refine List.map_congr_left fun m _=>?_
    simp only [Function.comp]
    split
    ·rename_i q;rw [q];rfl
    ·rfl
   have hcase:∀ x∈L,x=.set s\/(x∈F/\aR x=Option.none):=fun x hx=>by
    rcases aP.1 (hs x hx) with h | ⟨s',h,rfl⟩
    ·exact .inr h
    ·rw [hf] at h;cases h;exact .inl rfl
   rw [e]
   refine Gy _ ?_ fun x hx=>?_
   ·rw [List.nodup_iff_pairwise_ne,List.pairwise_map]
    refine List.Pairwise.imp_of_mem (fun {a b} ha hb hab=>?_) hn
    rcases hcase a ha with rfl | ⟨ha1,ha2⟩
    ·rcases hcase b hb with rfl | ⟨hb1,hb2⟩
     ·exact absurd rfl hab
     ·rw [if_pos rfl,if_neg (by rintro rfl;cases hb2)]
      rintro rfl;cases hb2
    ·rw [if_neg (by rintro rfl;cases ha2)]
     rcases hcase b hb with rfl | ⟨hb1,hb2⟩
     ·rw [if_pos rfl];rintro rfl;cases ha2
     ·rw [if_neg (by rintro rfl;cases hb2)];exact hab
   ·obtain ⟨y,hy,rfl⟩:=List.mem_map.1 hx
    rcases hcase y hy with rfl | ⟨hy1,hy2⟩
    ·rw [if_pos rfl];exact hs0
    ·rw [if_neg (by rintro rfl;cases hy2)];exact hy1
 unfold aj p_
 rw [hF]
 split
 ·exact htr _ (xU k)
 split
 ·exact htr _ (sU k)
 ·rename_i hne
  refine ady _ hne ((xM (nE hok).2).filter _) fun m hm=>(List.mem_filter.1 hm).1
theorem OG {k:Bool} {n:Nat}:∀ {l:List Tm},(∀ t∈l,hF false Option.none t<=n)->hF false (some k) (gZ k l)<=n
 | [],_=>by simp [gZ,hF]
 | [a],h=>Nat.le_trans (Z7 k a) (h a (List.mem_cons_self ..))
 | a::b::l,h=>by
  have ih:=OG (k:=k) (l:=b::l) fun t ht=>h t (List.mem_cons_of_mem _ ht)
  have:=h a (List.mem_cons_self ..)
  rw [iT k a (by simp)]
  simp only [hF,if_true,Nat.add_zero]
  omega
theorem Yr (k:Bool) (t:Tm):hF false Option.none t<=hF false (some k) t+1:=by
 cases t with
 | bf k' a b=>
  by_cases e:k'=k
  ·subst e;simp only [hF];simp
  ·simp only [hF];simp [Ne.symm e]
 | _=>exact Nat.le_succ _
theorem JH {k:Bool} {n:Nat} {l:List Tm} (hl:∀ t∈l,Cn t) (h:∀ t∈l,hF false Option.none t<=n):hF false Option.none (aj k l)<=n+1:=by
 unfold aj p_
 split
 ·cases k<;>simp [eB,hF]
 split
 ·cases k<;>simp [bD,hF]
 ·refine Nat.le_trans (Yr k _) (Nat.succ_le_succ (OG fun t ht=>?_))
  rcases aP.1 (List.mem_filter.1 ht).1 with ⟨q,_⟩ | ⟨s,_,rfl⟩
  ·obtain ⟨d,hd,hm⟩:=List.mem_flatMap.1 q
   exact Nat.le_trans (UE d hm ((hl d hd).members t hm).2) (Nat.le_trans (Z7 k d) (h d hd))
  ·simp [hF]
end Go.Proofs.YtfolanohokflkaaGreatDoor
namespace Go.Proofs.YtfolanohokflkaaGreatDoor
open Tm (eps)
def OH (k s:Nat) (t:Tm):Prop:=∃ u L q,bF t+3<=s*(3+u)/\hF false Option.none t<=L+q/\2 ^ q<=s/\L+3*u<=k
theorem zU {k s:Nat} {t:Tm} (hs:1<=s) (h1:bF t=0) (h2:hF false Option.none t=0):OH k s t:=
 ⟨0,0,0,by omega,by omega,by simpa using hs,by omega⟩
theorem aaW {k s:Nat} {t:Tm} (h:OH k s t):OH (k+1) (s+1) (kg t):=by
 obtain ⟨u,L,q,h1,h2,h3,h4⟩:=h
 have:=aaU t
 have:=aaV t
 exact ⟨u,L+1,q,by rw [Nat.add_mul];omega,by omega,by omega,by omega⟩
def WtL (k s:Nat) (l:List Tm):Prop:=∃ u L q,bA (l.map fun t=>bF t+3)<=s*(3+u)/\(∀ t∈l,hF false Option.none t<=L+q)/\2 ^ q<=s/\L+3*u<=k
theorem Yt {k s:Nat} {t:Tm} (h:OH k s t):WtL k s [t]:=by
 obtain ⟨u,L,q,h1,h2,h3,h4⟩:=h
 exact ⟨u,L,q,by simpa [bA] using h1,by simpa using h2,h3,h4⟩
theorem UH {s u v:Nat} (h:u<=v):s*(3+u)<=s*(3+v):=Nat.mul_le_mul_left _ (by omega)
theorem UI {k k' s s':Nat} {l:List Tm} {t:Tm} (h:WtL k s l) (h':OH k' s' t):WtL (k+k') (s+s') (l++[t]):=by
 obtain ⟨u,L,q,h1,h2,h3,h4⟩:=h
 obtain ⟨u',L',q',h1',h2',h3',h4'⟩:=h'
 have a1:=UH (s:=s) (Nat.le_max_left u u')
 have a2:=UH (s:=s') (Nat.le_max_right u u')
 refine ⟨max u u',max L L',max q q',?_,?_,?_,by omega⟩
 ·rw [List.map_append,kQ,Nat.add_mul]
  simp only [List.map_cons,List.map_nil,bA,Nat.add_zero]
  omega
 ·intro x hx
  rcases List.mem_append.1 hx with hx | hx
  ·have:=h2 x hx;omega
  ·have:x=t:=by simpa using hx
   subst this;omega
 ·rcases Nat.le_total q q' with e | e
  ·rw [Nat.max_eq_right e];omega
  ·rw [Nat.max_eq_left e];omega
theorem EY:∀ l:List Tm,bA (l.map fun t=>bF t+3)=bA (l.map fun t=>bF t+1)+2*l.length
 | []=>rfl
 | a::l=>by rw [List.map_cons,bA,EY l,List.map_cons,bA,List.length_cons];omega
theorem OI {k s n:Nat} {l:List Tm} {t:Tm} (h:WtL k s l) (hn:l.length=n+2) (h1:bF t+1<=bA (l.map fun t=>bF t+1)) (h2:∀ m,(∀ t∈l,hF false Option.none t<=m)->hF false Option.none t<=m+1):OH (k+1) (s+(n+1)) t:=by
 obtain ⟨u,L,q,g1,g2,g3,g4⟩:=h
 have:=h2 _ g2
 rw [EY] at g1
 refine ⟨u,L+1,q,?_,by omega,by omega,by omega⟩
 rw [Nat.add_mul]
 have:(n+1)*3<=(n+1)*(3+u):=Nat.mul_le_mul_left _ (by omega)
 omega
def wK (d:Nat) (o:jY):Prop:=match o.2.1 with
 | Option.none=>(o.2.2=2/\o.1<=1/\1<=d)\/(o.2.2=(o.1:Int)+1/\4<=d)
 | some m=>(o.1=0/\m=1/\o.2.2=2/\1<=d)\/(o.1<=m/\o.2.2=max (m:Int) 1/\3<=d/\(o.1<m->5<=d))
theorem JI (a b:List Tm):kF (a++b)=a.foldr ay (kF b):=by simp [kF,List.foldr_append]
theorem Gz (n:Nat) (t:Tm):bA ((List.replicate n t).map fun t=>bF t+1)=n*(bF t+1):=by
 induction n with
 | zero=>simp [bA]
 | succ n ih=>rw [List.replicate_succ,List.map_cons,bA,ih,Nat.add_mul (n) 1];omega
theorem JJ (t:Tm) (n:Nat):nX t n Option.none=kF (List.replicate n t++[gY t]):=by
 rw [JI];simp [nX,kF,ai]
theorem JK (t:Tm) (n m:Nat):nX t n (some m)=kF (List.replicate n t++List.replicate (m - n) (o_ t)):=by
 rw [JI];rfl
theorem UJ {t:Tm} (ht:Cn t):bF (o_ t)<=bF t+1:=by
 have:=JG (k:=false) (l:=[eps,t]) (by simpa using ⟨trivial,ht⟩) (by simp)
 simp only [List.map_cons,List.map_nil,bA,bF] at this
 unfold o_
 omega
theorem aaX {t:Tm} (ht:Cn t):hF false Option.none (o_ t)<=hF false Option.none t+1:=JH (by simpa using ⟨trivial,ht⟩) (by simp [hF])
theorem wL {q s:Nat} (h:2 ^ q<=s) {f:Nat} (hf:1<=f):2 ^ q<=s*f:=Nat.le_trans h (Nat.le_mul_of_pos_right _ hf)
theorem aaY {k s f d:Nat} {t:Tm} {o:jY} (ht:Cn t) (h:OH k s t) (hs:1<=s) (hf:o.2.2=(f:Int)) (ho:wK d o):OH (k+d) (s*f) (nX t o.1 o.2.1):=by
 obtain ⟨n,om,ff⟩:=o
 obtain ⟨u,L,q,h1,h2,h3,h4⟩:=h
 dsimp only at hf ⊢
 subst hf
 have hst:=Oj ht
 have hop:=Ua ht
 have e1:=OD t
 have e2:=Yq t
 have e3:=UJ ht
 have e4:=aaX ht
 cases om with
 | none=>
  dsimp only [wK] at ho
  have hz:=Gv (l:=List.replicate n t++[gY t]) (by simp)
  have hh:=MM (n:=hF false Option.none t+1) (l:=List.replicate n t++[gY t]) (by
   intro x hx
   rcases List.mem_append.1 hx with hx | hx
   ·rw [(List.mem_replicate.1 hx).2];exact ht
   ·simp at hx;subst hx;exact hst) (by
   intro x hx
   rcases List.mem_append.1 hx with hx | hx
   ·rw [(List.mem_replicate.1 hx).2];omega
   ·simp at hx;subst hx;exact e2)
  rw [<-JJ] at hz hh
  rw [List.map_append,kQ,Gz] at hz
  simp only [List.map_cons,List.map_nil,bA,Nat.add_zero] at hz
  rcases ho with ⟨hf,hn,hd⟩ | ⟨hf,hd⟩
  ·have hf2:f=2:=by omega
   subst hf2
   rcases Nat.lt_or_ge 0 n with hn0 | hn0
   ·have:n=1:=by omega
    subst this
    refine ⟨u,L+1,q+1,?_,by omega,by rw [Nat.pow_succ];exact Nat.mul_le_mul_right _ h3,by omega⟩
    rw [Nat.mul_assoc,Nat.mul_comm 2,<-Nat.mul_assoc]
    omega
   ·have:n=0:=by omega
    subst this
    rw [show nX t 0 Option.none=gY t from by simp [nX]] at *
    refine ⟨u,L+1,q,?_,by omega,wL h3 (by omega),by omega⟩
    rw [Nat.mul_assoc,Nat.mul_comm 2,<-Nat.mul_assoc]
    omega
  ·have hf2:f=n+1:=by omega
   subst hf2
   rcases Nat.lt_or_ge 0 n with hn0 | hn0
   ·refine ⟨u,L+2,q,?_,by omega,wL h3 (by omega),by omega⟩
    have a1:(bF t+3)*(n+1)<=s*(3+u)*(n+1):=Nat.mul_le_mul_right _ h1
    rw [Nat.mul_assoc,Nat.mul_comm (n+1),<-Nat.mul_assoc]
    rw [Nat.add_mul,Nat.mul_add] at a1
    rw [Nat.mul_add,Nat.mul_comm n] at hz
    omega
   ·have:n=0:=by omega
    subst this
    rw [show nX t 0 Option.none=gY t from by simp [nX]] at *
    refine ⟨u+1,L+1,q,?_,by omega,wL h3 (by omega),by omega⟩
    rw [show 3+(u+1)=(3+u)+1 from by omega,Nat.zero_add,Nat.mul_one,Nat.mul_add]
    omega
 | some m=>
  dsimp only [wK] at ho
  rcases ho with ⟨rfl,rfl,hf,hd⟩ | ⟨hnm,hf,hd,hd5⟩
  ·have hf2:f=2:=by omega
   subst hf2
   rw [show nX t 0 (some 1)=o_ t from by simp [nX,kF,ai]]
   refine ⟨u,L+1,q,?_,by omega,wL h3 (by omega),by omega⟩
   rw [Nat.mul_assoc,Nat.mul_comm 2,<-Nat.mul_assoc]
   omega
  ·rcases Nat.lt_or_ge 1 m with hm | hm
   ·have hf2:f=m:=by omega
    subst hf2
    have hz:=Gv (l:=List.replicate n t++List.replicate (f - n) (o_ t)) (by
     intro e
     have:=congrArg List.length e
     simp at this
     omega)
    have hh:=MM (n:=hF false Option.none t+1) (l:=List.replicate n t++List.replicate (f - n) (o_ t)) (by
     intro x hx
     rcases List.mem_append.1 hx with hx | hx
     ·rw [(List.mem_replicate.1 hx).2];exact ht
     ·rw [(List.mem_replicate.1 hx).2];exact hop) (by
     intro x hx
     rcases List.mem_append.1 hx with hx | hx
     ·rw [(List.mem_replicate.1 hx).2];omega
     ·rw [(List.mem_replicate.1 hx).2];exact e4)
    rw [<-JK] at hz hh
    rw [List.map_append,kQ,Gz,Gz] at hz
    refine ⟨u,L+2,q,?_,by omega,wL h3 (by omega),by omega⟩
    have a1:(bF t+3)*f<=s*(3+u)*f:=Nat.mul_le_mul_right _ h1
    rw [Nat.mul_assoc,Nat.mul_comm f,<-Nat.mul_assoc]
    have a2:(f - n)*(bF (o_ t)+1)<=(f - n)*(bF t+2):=Nat.mul_le_mul_left _ (by omega)
    have a3:n*(bF t+1)<=n*(bF t+2):=Nat.mul_le_mul_left _ (by omega)
    have a4:n*(bF t+2)+(f - n)*(bF t+2)=f*(bF t+2):=by rw [<-Nat.add_mul];congr 1;omega
    rw [Nat.mul_comm f,Nat.add_mul] at a4
    rw [Nat.add_mul] at a1
    omega
   ·have hf2:f=1:=by omega
    subst hf2
    rw [Nat.mul_one]
    rcases Nat.lt_or_ge n m with hlt | hge
    ·have e0:n=0:=by omega
     have e1:m=1:=by omega
     subst e0 e1
     rw [show nX t 0 (some 1)=o_ t from by simp [nX,kF,ai]]
     have:=hd5 hlt
     refine ⟨u+1,L+1,q,?_,by omega,h3,by omega⟩
     rw [show 3+(u+1)=(3+u)+1 from by omega,Nat.mul_add]
     omega
    ·have e0:n=m:=by omega
     subst e0
     rcases Nat.lt_or_ge 0 n with hn0 | hn0
     ·have:n=1:=by omega
      subst this
      rw [show nX t 1 (some 1)=t from by simp [nX,kF,ai]]
      exact ⟨u,L,q,h1,h2,h3,by omega⟩
     ·have:n=0:=by omega
      subst this
      rw [show nX t 0 (some 0)=eps from by simp [nX,kF]]
      exact zU hs rfl rfl
end Go.Proofs.YtfolanohokflkaaGreatDoor
namespace Go.Proofs.YtfolanohokflkaaGreatDoor
open Tm (eps)
theorem eF {l:List Sy} (h:0<=hd l):l.tail.length+1=l.length:=by
 cases l with
 | nil=>exact absurd h (by decide)
 | cons x l=>rfl
theorem cZ (l:List Sy):l.tail.length<=l.length:=by simp
theorem OJ:∀ (f:Nat) (v:Int) (k:Nat) (l:List Sy),(uw f v k l).2.2.length<=l.length
 | 0,_,_,_=>Nat.le_refl _
 | f+1,v,k,l=>by
  rw [uw];split
  ·exact Nat.le_trans (OJ f _ _ _) (cZ l)
  ·exact Nat.le_refl _
theorem UK {n:Nat} {l l':List Sy} {c:Int} (h:oO n l=.ok (c,l')):l'.length<=l.length:=by
 unfold oO lK at h
 repeat' split at h
 all_goals first
  | (simp only [bad] at h;cases h;done)
  | (cases h;exact Nat.le_trans (cZ _) (Nat.le_trans (OJ _ _ _ _) (cZ l)))
theorem uT {n:Nat} {l l':List Sy} {c:Int} (h:fE n l=.ok (c,l')):l'.length<=l.length:=by
 unfold fE at h
 split at h
 ·exact Nat.le_trans (UK h) (cZ l)
 ·repeat' split at h
  all_goals first
   | (simp only [bad] at h;cases h;done)
   | (cases h;exact cZ l)
theorem xX {n:Nat} {l l':List Sy} {c:Int} (h:fu n l=.ok (c,l')):l'.length<=l.length:=by
 unfold fu at h
 split at h
 ·exact Nat.le_trans (uT h) (cZ l)
 ·split at h
  ·simp only [bad] at h;cases h
  ·cases h;exact cZ l
theorem UL {n:Nat} {l l':List Sy} {s:af} (h:kH n l=.ok (s,l')):l'.length<=l.length:=by
 unfold kH at h
 split at h
 ·cases h;exact Nat.le_trans (cZ _) (cZ l)
 ·split at h
  ·cases h
  ·rename_i a l1 e
   have h1:=xX e
   split at h
   ·split at h
    ·cases h
    ·rename_i b l2 e2
     have h2:=xX e2
     have h3:=cZ l1
     split at h
     ·simp only [bad] at h;cases h
     ·cases h;omega
   ·cases h;exact h1
theorem oK {n:Nat}:∀ (f:Nat) {s s':af} {l l':List Sy},bR n f s l=.ok (s',l')->l'.length<=l.length
 | 0,_,_,_,_,h=>by simp only [bR,bad] at h;cases h
 | f+1,s,s',l,l',h=>by
  rw [bR] at h
  split at h
  ·cases h;exact cZ l
  ·split at h
   ·cases h
   ·rename_i p l1 e
    have:=UL e
    have:=oK f h
    omega
theorem Rk {n:Nat} {s:af} {l l':List Sy} (h:jP n l=.ok (s,l')):l'.length<=l.length:=by
 unfold jP at h
 split at h
 ·unfold Be at h
  split at h
  ·cases h
  ·rename_i s1 l1 e
   have:=oK _ e
   have:=cZ l
   cases h;omega
 ·exact oK _ h
theorem JL {n:Nat} {s:af} {l l':List Sy} (h:gp n l=.ok (s,l')):l'.length+1<=l.length:=by
 unfold gp at h
 split at h
 ·rename_i q
  have:=Rk h
  have:=eF (l:=l) (by omega)
  omega
 split at h
 ·rename_i q
  have h0:=eF (l:=l) (by omega)
  split at h
  ·cases h
   have:=cZ l.tail
   omega
  ·unfold QS at h
   split at h
   ·cases h
   ·rename_i c l1 e
    have:=uT e
    cases h;omega
 split at h
 ·rename_i q
  have h0:=eF (l:=l) (by omega)
  cases h;omega
 split at h
 ·simp only [bad] at h;cases h
 ·rename_i q
  have h0:=eF (l:=l) (by omega)
  cases h;omega
theorem OL {n:Nat} {least v:Int} {l l':List Sy} (h:bU n least l=.ok (v,l')):0<=v/\least<=v/\l'.length+1<=l.length:=by
 unfold bU at h
 split at h
 ·rename_i hdig
  have hd0:48<=hd l/\hd l<=57:=by simpa [iJ] using hdig
  have h0:=eF (l:=l) (by omega)
  split at h
  ·simp only [bad] at h;cases h
  ·rename_i hr
   simp only [Except.ok.injEq] at h
   have e1:(kT l).1=v:=by rw [h]
   have e2:(kT l).2=l':=by rw [h]
   have hl:¬ (kT l).1<least:=fun q=>hr (.inl q)
   rw [e1] at hl
   refine ⟨?_,by omega,?_⟩
   ·rw [<-e1];unfold kT;split
    ·rename_i q
     have:48<=hd l.tail/\hd l.tail<=57:=by simpa [iJ] using q.2
     show 0<=10*(hd l - 48)+(hd l.tail - 48)
     omega
    ·show 0<=hd l - 48
     omega
   ·rw [<-e2];unfold kT
    have:=cZ l.tail
    split
    ·show l.tail.tail.length+1<=_;omega
    ·show l.tail.length+1<=_;omega
 ·simp only [bad] at h;cases h
theorem JM {n:Nat} {m o:jY} {l l':List Sy} (h:gT n m l=.ok (o,l')):o=m/\l'.length+1<=l.length:=by
 unfold gT at h
 split at h
 ·rename_i q
  have:=eF (l:=l) (by omega)
  cases h;exact ⟨rfl,by omega⟩
 ·simp only [bad] at h;cases h
theorem Z8 {m:Int} (h:0<=m):j_ m=max ((m.toNat:Nat):Int) 1:=by
 unfold j_;split<;>omega
theorem xY {n:Nat} {o:jY} {l l':List Sy} (hr:mr (hd l)=true) (h:eU n l=.ok (o,l')):∃ d,wK d o/\l'.length+d<=l.length/\∃ f:Nat,1<=f/\o.2.2=(f:Int):=by
 have hp:0<=hd l:=by
  unfold mr at hr
  simp at hr
  omega
 have h0:=eF hp
 unfold eU at h
 split at h
 ·unfold jc at h
  split at h
  ·cases h
  ·rename_i a l1 e
   obtain ⟨ha,_,hl1⟩:=OL e
   split at h
   ·rename_i q
    have h1:=eF (l:=l1) (by omega)
    split at h
    ·rename_i q2
     have h2:=eF (l:=l1.tail) (by omega)
     cases h
     refine ⟨4,.inr ⟨?_,Nat.le_refl _⟩,by omega,(a+1).toNat,by omega,?_⟩
     ·show a+1=((a.toNat:Nat):Int)+1;omega
     ·show a+1=(((a+1).toNat:Nat):Int);omega
    ·split at h
     ·cases h
     ·rename_i m l2 e2
      obtain ⟨hm,hm2,hl2⟩:=OL e2
      obtain ⟨rfl,hl3⟩:=JM h
      refine ⟨5,.inr ⟨?_,Z8 hm,by omega,fun _=>Nat.le_refl _⟩,by omega,(j_ m).toNat,?_,?_⟩
      ·show a.toNat<=m.toNat;omega
      ·unfold j_;split<;>omega
      ·show j_ m=_;have:0<=j_ m:=by unfold j_;split<;>omega
       omega
   ·obtain ⟨rfl,hl3⟩:=JM h
    refine ⟨3,.inr ⟨Nat.le_refl _,Z8 ha,Nat.le_refl _,fun q=>absurd q (Nat.lt_irrefl _)⟩,by omega,(j_ a).toNat,?_,?_⟩
    ·unfold j_;split<;>omega
    ·show j_ a=_;have:0<=j_ a:=by unfold j_;split<;>omega
     omega
 ·split at h
  ·cases h
   exact ⟨1,.inl ⟨rfl,by simp,Nat.le_refl _⟩,by omega,2,by omega,rfl⟩
  ·split at h
   ·cases h
    exact ⟨1,.inl ⟨rfl,by simp,Nat.le_refl _⟩,by omega,2,by omega,rfl⟩
   ·cases h
    exact ⟨1,.inl ⟨rfl,rfl,rfl,Nat.le_refl _⟩,by omega,2,by omega,rfl⟩
def Hy (k:Nat) (p:Pn):Prop:=1<=p.2/\(p.2<=60->OH k p.2.toNat (dE p.1))
abbrev aaZ (d:Nat) (l:List Sy) (r:bu Pn):Prop:=∀ v l',r=.ok (v,l')->∃ k,l'.length+k+d<=l.length/\Hy k v
abbrev WA (d:Nat) (a:List Sy->bu Pn):Prop:=∀ l,bq l->aaZ d l (a l)
theorem zV {x:Int} (h:dB x<=60):dB x=x:=by unfold dB at *;split<;>simp_all<;>omega
theorem OM {x:Int} (h:1<=x):1<=dB x:=by unfold dB;split<;>omega
theorem GA {n:Nat} {l:List Sy}:aaZ 1 l (og (gp n l)):=by
 intro v l' h
 unfold og at h
 split at h
 ·cases h
 ·rename_i s l1 e
  have:=JL e
  cases h
  refine ⟨0,by omega,Int.le_refl _,fun _=>zU (Nat.le_refl _) ?_ ?_⟩<;>rw [dE]<;>rfl
theorem OO {k:Nat} {p:Pn} (h:Hy k p):Hy (k+1) (I5 p):=by
 refine ⟨OM (by have:=h.1;omega),fun hq=>?_⟩
 have e:=zV hq
 show OH _ (dB (p.2+1)).toNat (dE (.not p.1))
 have hq':dB (p.2+1)<=60:=hq
 rw [e] at hq' ⊢
 rw [dE,show (p.2+1).toNat=p.2.toNat+1 from by have:=h.1;omega]
 exact aaW (h.2 (by omega))
theorem OP {k d f:Nat} {p:Pn} {o:jY} (hc:uN p) (h:Hy k p) (hf:o.2.2=(f:Int)) (hf1:1<=f) (ho:wK d o):Hy (k+d) (I4 p o):=by
 have hp:=h.1
 have e0:p.2*o.2.2=((p.2.toNat*f:Nat):Int):=by rw [hf,Int.natCast_mul,Int.toNat_of_nonneg (by omega)]
 have h1:1<=p.2.toNat*f:=Nat.mul_pos (by omega) (by omega)
 have h2:p.2.toNat<=p.2.toNat*f:=Nat.le_mul_of_pos_right _ hf1
 refine ⟨OM (by rw [e0];omega),fun hq=>?_⟩
 have e:=zV hq
 have hq':dB (p.2*o.2.2)<=60:=hq
 show OH _ (dB (p.2*o.2.2)).toNat (dE (.rep p.1 o.1 o.2.1))
 rw [e,e0] at hq' ⊢
 rw [dE,Int.toNat_natCast]
 exact aaY (uM hc) (h.2 (by omega)) (by omega) hf ho
theorem OQ {n:Nat}:∀ (f:Nat) {z:Pn} {l:List Sy} {k:Nat},uN z->bq l->Hy k z->∀ v l',kI n f z l=.ok (v,l')->∃ k',l'.length+k'<=l.length+k/\Hy k' v
 | 0,_,_,_,_,_,_,_,_,h=>by simp only [kI,bad] at h;cases h
 | f+1,z,l,k,hz,ha,hw,v,l',h=>by
  rw [kI] at h
  split at h
  ·rename_i hr
   split at h
   ·cases h
   ·rename_i m l1 e
    obtain ⟨d,ho,hd,fa,hf1,hf⟩:=xY hr e
    have ha1:=(oh (n:=n) ha _ _ e).2
    obtain ⟨k',h1,h2⟩:=OQ f (z:=I4 z m) (by show sO (.rep z.1 m.1 m.2.1);rw [sO];exact hz) ha1 (OP hz hw hf hf1 ho) v l' h
    exact ⟨k',by omega,h2⟩
  ·cases h;exact ⟨k,Nat.le_refl _,hw⟩
theorem GD {n:Nat} {a:List Sy->bu Pn} (ha:fe a) (hw:WA 1 a):∀ (f:Nat) (l:List Sy),bq l->aaZ 1 l (dZ n a f l)
 | 0,_,_=>by intro v l' h;simp only [dZ,bad] at h;cases h
 | f+1,l,hl=>by
  intro v l' h
  rw [dZ] at h
  split at h
  ·rename_i q
   have h0:=eF (l:=l) (by omega)
   split at h
   ·cases h
   ·rename_i z l1 e
    obtain ⟨k,h1,h2⟩:=GD ha hw f l.tail hl.tail _ _ e
    cases h
    exact ⟨k+1,by omega,OO h2⟩
  ·split at h
   ·cases h
   ·rename_i z l1 e
    obtain ⟨k,h1,h2⟩:=hw l hl _ _ e
    obtain ⟨hz,hl1⟩:=ha l hl _ _ e
    obtain ⟨k',h3,h4⟩:=OQ _ hz hl1 h2 v l' h
    exact ⟨k',by omega,h4⟩
def Xi (k:Nat) (z:List Pn):Prop:=(∀ p∈z,1<=p.2)/\(dJ z<=60->WtL k (dJ z).toNat (z.map fun p=>dE p.1))
theorem UM:∀ (z:List Pn) (y:Pn),dJ (z++[y])=dJ z+y.2
 | [],y=>by simp [dJ]
 | p::z,y=>by rw [List.cons_append,dJ,UM z y,dJ];omega
theorem pJ:∀ {z:List Pn},(∀ p∈z,1<=p.2)->(z.length:Int)<=dJ z
 | [],_=>by simp [dJ]
 | p::z,h=>by
  have:=h p (List.mem_cons_self ..)
  have:=pJ (z:=z) fun q hq=>h q (List.mem_cons_of_mem _ hq)
  rw [dJ,List.length_cons];omega
theorem GG {k:Nat} {y:Pn} (h:Hy k y):Xi k [y]:=by
 refine ⟨by simpa using h.1,fun hq=>?_⟩
 simp only [dJ,Int.add_zero] at hq ⊢
 exact Yt (h.2 hq)
theorem BV {k k':Nat} {z:List Pn} {y:Pn} (h:Xi k z) (h':Hy k' y):Xi (k+k') (z++[y]):=by
 have h0:=pJ h.1
 have h1:=h'.1
 refine ⟨fun p hp=>?_,fun hq=>?_⟩
 ·rcases List.mem_append.1 hp with hp | hp
  ·exact h.1 p hp
  ·have:p=y:=by simpa using hp
   subst this;exact h1
 ·rw [UM] at hq ⊢
  rw [show (dJ z+y.2).toNat=(dJ z).toNat+y.2.toNat from by omega,List.map_append]
  exact UI (h.2 (by omega)) (h'.2 (by omega))
theorem JN (z:List Pn):vS (z.map Prod.fst)=z.map fun p=>dE p.1:=by rw [A_,List.map_map];rfl
theorem BX {z:List Pn} (h:∀ p∈z,uN p):∀ t∈z.map (fun p=>dE p.1),Cn t:=fun t ht=>by
 obtain ⟨p,hp,rfl⟩:=List.mem_map.1 ht
 exact uM (h p hp)
theorem JO {k:Nat} {z:List Pn} (hz:∀ p∈z,uN p) (h:Xi k z) (hne:z≠[]):Hy (if z.length=1 then k else k+1) (fM z):=by
 match z,hz,h,hne with
 | [],_,_,hne=>exact absurd rfl hne
 | [p],hz,h,_=>
  have:=h.1 p (List.mem_cons_self ..)
  show Hy k p
  refine ⟨this,fun hq=>?_⟩
  have h2:=h.2 (by simpa [dJ] using hq)
  obtain ⟨u,L,q,g1,g2,g3,g4⟩:=h2
  simp only [dJ,Int.add_zero,List.map_cons,List.map_nil,bA,Nat.add_zero] at g1 g2 g3
  exact ⟨u,L,q,g1,g2 _ (List.mem_cons_self ..),g3,g4⟩
 | p::p'::r,hz,h,_=>
  rw [if_neg (by simp)]
  have h0:=pJ h.1
  simp only [List.length_cons] at h0
  have e:fM (p::p'::r)=(.row ((p::p'::r).map Prod.fst),min (((p::p'::r).length:Int) - 1+dJ (p::p'::r)) 61):=by simp [fM]
  rw [e]
  refine ⟨?_,fun hq=>?_⟩
  ·show 1<=min (((p::p'::r).length:Int) - 1+dJ (p::p'::r)) 61
   simp only [List.length_cons];omega
  ·have hq':min (((p::p'::r).length:Int) - 1+dJ (p::p'::r)) 61<=60:=hq
   show OH _ (min (((p::p'::r).length:Int) - 1+dJ (p::p'::r)) 61).toNat (dE (.row ((p::p'::r).map Prod.fst)))
   simp only [List.length_cons] at hq'
   rw [show (min (((p::p'::r).length:Int) - 1+dJ (p::p'::r)) 61).toNat=(dJ (p::p'::r)).toNat+(r.length+1) from by simp only [List.length_cons];omega,dE,JN]
   exact OI (h.2 (by omega)) (by simp) (Gv (by simp)) fun m hm=>MM (BX hz) hm
theorem JQ {b:Bool} {k:Nat} {z:List Pn} (hz:∀ p∈z,uN p) (h:Xi k z) (hne:z≠[]):Hy (if z.length=1 then k else k+1) (jk b z):=by
 match z,hz,h,hne with
 | [],_,_,hne=>exact absurd rfl hne
 | [p],hz,h,_=>
  have:=h.1 p (List.mem_cons_self ..)
  show Hy k p
  refine ⟨this,fun hq=>?_⟩
  have h2:=h.2 (by simpa [dJ] using hq)
  obtain ⟨u,L,q,g1,g2,g3,g4⟩:=h2
  simp only [dJ,Int.add_zero,List.map_cons,List.map_nil,bA,Nat.add_zero] at g1 g2 g3
  exact ⟨u,L,q,g1,g2 _ (List.mem_cons_self ..),g3,g4⟩
 | p::p'::r,hz,h,_=>
  rw [if_neg (by simp)]
  have h0:=pJ h.1
  simp only [List.length_cons] at h0
  have e:jk b (p::p'::r)=(.bf b ((p::p'::r).map Prod.fst),min (((p::p'::r).length:Int) - 1+dJ (p::p'::r)) 61):=rfl
  rw [e]
  refine ⟨?_,fun hq=>?_⟩
  ·show 1<=min (((p::p'::r).length:Int) - 1+dJ (p::p'::r)) 61
   simp only [List.length_cons];omega
  ·have hq':min (((p::p'::r).length:Int) - 1+dJ (p::p'::r)) 61<=60:=hq
   show OH _ (min (((p::p'::r).length:Int) - 1+dJ (p::p'::r)) 61).toNat (dE (.bf b ((p::p'::r).map Prod.fst)))
   simp only [List.length_cons] at hq'
   rw [show (min (((p::p'::r).length:Int) - 1+dJ (p::p'::r)) 61).toNat=(dJ (p::p'::r)).toNat+(r.length+1) from by simp only [List.length_cons];omega,dE,JN]
   exact OI (h.2 (by omega)) (by simp) (JG (BX hz) (by simp)) fun m hm=>JH (BX hz) hm
theorem BZ {n:Nat} {a:List Sy->bu Pn} (ha:fe a) (hw:WA 1 a):∀ (f:Nat) {z:List Pn} {l:List Sy} {k:Nat},bq l->Xi k z->∀ v l',bM n a f z l=.ok (v,l')->∃ k',l'.length+k'+v.length<=l.length+k+z.length/\Xi k' v/\z.length<=v.length
 | 0,_,_,_,_,_,_,_,h=>by simp only [bM,bad] at h;cases h
 | f+1,z,l,k,hl,hz,v,l',h=>by
  rw [bM] at h
  split at h
  ·cases h;exact ⟨k,Nat.le_refl _,hz,Nat.le_refl _⟩
  ·split at h
   ·cases h
   ·rename_i y l1 e
    obtain ⟨k1,h1,h2⟩:=GD (n:=n) ha hw _ l hl _ _ e
    have hl1:=(jd (n:=n) ha (l.length+1) hl _ _ e).2
    obtain ⟨k',h3,h4,h5⟩:=BZ ha hw f hl1 (BV hz h2) v l' h
    rw [List.length_append] at h3 h5
    simp only [List.length_cons,List.length_nil] at h3 h5
    exact ⟨k',by omega,h4,by omega⟩
theorem aa0 {n:Nat} {a:List Sy->bu Pn} (ha:fe a) (hw:WA 1 a):WA 0 (rowP n a):=by
 intro l hl v l' h
 unfold rowP at h
 split at h
 ·cases h
  refine ⟨0,Nat.le_refl _,by decide,fun _=>zU (by decide) ?_ ?_⟩<;>simp [fM,dE,vS,kF,bF,hF]
 ·split at h
  ·cases h
  ·rename_i y l1 e
   obtain ⟨k1,h1,h2⟩:=GD (n:=n) ha hw _ l hl _ _ e
   obtain ⟨hy,hl1⟩:=jd (n:=n) ha (l.length+1) hl _ _ e
   have g:=mJ (n:=n) ha (l1.length+1) (xN hy) hl1
   cases e2:bM n a (l1.length+1) [y] l1 with
   | error x=>rw [e2] at h;cases h
   | ok r=>
    obtain ⟨v2,l2⟩:=r
    rw [e2] at h
    cases h
    obtain ⟨k',h3,h4,h5⟩:=BZ ha hw _ hl1 (GG h2) _ _ e2
    simp only [List.length_cons,List.length_nil] at h3 h5
    have hm:=JO (g _ _ e2).1 h4 (by rintro rfl;simp at h5)
    refine ⟨_,?_,hm⟩
    split<;>omega
theorem B_ {n:Nat} {a:List Sy->bu Pn} (ha:fe a) (hw:WA 0 a) (sg:Int) (hsg:0<=sg):∀ (f:Nat) {z:List Pn} {l:List Sy} {k:Nat},bq l->Xi k z->∀ v l',bO n a sg f z l=.ok (v,l')->∃ k',l'.length+k'+v.length<=l.length+k+z.length/\Xi k' v/\z.length<=v.length
 | 0,_,_,_,_,_,_,_,h=>by simp only [bO,bad] at h;cases h
 | f+1,z,l,k,hl,hz,v,l',h=>by
  rw [bO] at h
  split at h
  ·rename_i q
   have h0:=eF (l:=l) (by omega)
   split at h
   ·cases h
   ·rename_i y l1 e
    obtain ⟨k1,h1,h2⟩:=hw l.tail hl.tail _ _ e
    have hl1:=(ha l.tail hl.tail _ _ e).2
    obtain ⟨k',h3,h4,h5⟩:=B_ ha hw sg hsg f hl1 (BV hz h2) v l' h
    rw [List.length_append] at h3 h5
    simp only [List.length_cons,List.length_nil] at h3 h5
    exact ⟨k',by omega,h4,by omega⟩
  ·cases h;exact ⟨k,Nat.le_refl _,hz,Nat.le_refl _⟩
theorem UN {n:Nat} {a:List Sy->bu Pn} (ha:fe a) (hw:WA 0 a) (sg:Int) (hsg:0<=sg) (b:Bool):WA 0 (qI n a sg (jk b)):=by
 intro l hl v l' h
 unfold qI at h
 split at h
 ·cases h
 ·rename_i y l1 e
  obtain ⟨k1,h1,h2⟩:=hw l hl _ _ e
  obtain ⟨hy,hl1⟩:=ha l hl _ _ e
  have g:=mK (n:=n) ha sg (l1.length+1) (xN hy) hl1
  cases e2:bO n a sg (l1.length+1) [y] l1 with
  | error x=>rw [e2] at h;cases h
  | ok r=>
   obtain ⟨v2,l2⟩:=r
   rw [e2] at h
   cases h
   obtain ⟨k',h3,h4,h5⟩:=B_ ha hw sg hsg _ hl1 (GG h2) _ _ e2
   simp only [List.length_cons,List.length_nil] at h3 h5
   have hm:=JQ (b:=b) (g _ _ e2).1 h4 (by rintro rfl;simp at h5)
   refine ⟨_,?_,hm⟩
   split<;>omega
theorem EZ {n:Nat} {a:List Sy->bu Pn} (ha:fe a) (hw:WA 1 a):WA 0 (fO n a):=
 UN (sP ha) (UN (good_row ha) (aa0 ha hw) 38 (by decide) true) 124 (by decide) false
theorem OT {n:Nat}:∀ k:Nat,WA 1 (eD n k)
 | 0=>by
  intro l hl v l' h
  rw [eD] at h
  split at h
  ·simp only [bad] at h;cases h
  ·exact GA v l' h
 | k+1=>by
  intro l hl v l' h
  rw [eD] at h
  split at h
  ·rename_i q
   have h0:=eF (l:=l) (by omega)
   unfold I6 at h
   split at h
   ·cases h
   ·rename_i z l1 e
    obtain ⟨k1,h1,h2⟩:=EZ (n:=n) (jZ k) (OT k) l.tail hl.tail _ _ e
    split at h
    ·rename_i q2
     have h3:=eF (l:=l1) (by omega)
     cases h
     exact ⟨k1,by omega,h2⟩
    ·simp only [bad] at h;cases h
  ·exact GA v l' h
theorem UO {s:ByteArray} {q:Pt} (h:bP s=.ok q):∃ u L,bF (dE q)+3<=60*(3+u)/\hF false Option.none (dE q)<=L+5/\L+3*u<=60:=by
 unfold bP at h
 split at h
 ·cases h
 ·rename_i hs
  unfold pq at h
  split at h
  ·cases h
  ·rename_i z l e
   obtain ⟨k,h1,h2⟩:=EZ (n:=s.size) (jZ 8) (OT 8) _ (kJ s 0) _ _ e
   split at h
   ·split at h
    ·cases h
    ·rename_i hz
     cases h
     obtain ⟨u,L,q,g1,g2,g3,g4⟩:=h2.2 (by omega)
     have hlen:(ah s 0).length<=s.size - 0:=uq s _ _
     have adz:z.2.toNat<=60:=by omega
     have hq:q<=5:=by
      rcases Nat.lt_or_ge q 6 with hh | hh
      ·omega
      ·have:2 ^ 6<=2 ^ q:=Nat.pow_le_pow_right (by omega) hh
       omega
     refine ⟨u,L,Nat.le_trans g1 (Nat.mul_le_mul_right _ adz),by omega,by omega⟩
   ·cases h
theorem E5 {s:ByteArray} {q:Pt} (h:bP s=.ok q) {L:List Int} (hL:L.length<=60):wI (BQ (dE q) (rR L))<=600000000000/\bF (dE q)<=1380:=by
 obtain ⟨u,Lv,h1,h2,h3⟩:=UO h
 have hu:u<=20:=by omega
 refine ⟨?_,by omega⟩
 have hb:=Yo (t:=dE q) (X:=rR L) (n:=1830) (h:=65 - 3*u) (z:=60*(3+u)) (MK hL) (by omega) (by omega)
 refine Nat.le_trans hb ?_
 clear hb h1 h2 h3
 have:∀ u:Fin 21,1830*(((65 - 3*u.val)*(60*(3+u.val)))*125+(2*(60*(3+u.val))+1)*68)+1830*((2*((65 - 3*u.val)*(60*(3+u.val)))+(2*(60*(3+u.val))+1))*(5*(60*(3+u.val))+9))<=600000000000:=by decide
 exact this ⟨u,by omega⟩
end Go.Proofs.YtfolanohokflkaaGreatDoor
namespace Go.Proofs.YtfolanohokflkaaGreatDoor
open Tm (eps)
def acA (B:List Int) (c d:Int):Prop:=∀ b∈B,b<=c↔b<=d
def bY (B:List Int) (s:af):Prop:=∀ c d,aG c=true->aG d=true->acA B c d->dw s c=dw s d
def fU (B:List Int):Tm->Prop
 | .set l=>bY B l
 | .eps=>True
 | .chain a b=>fU B a/\fU B b
 | .star a=>fU B a
 | .not a=>fU B a
 | .bf _ a b=>fU B a/\fU B b
theorem bY.mono {B B':List Int} {s:af} (h:bY B s) (hb:∀ b∈B,b∈B'):bY B' s:=fun c d hc hd hs=>h c d hc hd fun b hb'=>hs b (hb b hb')
theorem gJ (B:List Int):bY B []:=fun _ _ _ _ _=>rfl
theorem xZ {B:List Int} {a b:af} (ha:Pos a) (hb:Pos b) (h1:bY B a) (h2:bY B b):bY B (qH a b):=fun c d hc hd hs=>by rw [nZ ha hb hc,nZ ha hb hd,h1 c d hc hd hs,h2 c d hc hd hs]
theorem Rl {B:List Int} {a b:af} (ha:Pos a) (hb:Pos b) (h1:bY B a) (h2:bY B b):bY B (Iw a b):=fun c d hc hd hs=>by rw [vJ ha hb hc,vJ ha hb hd,h1 c d hc hd hs,h2 c d hc hd hs]
theorem tq {B:List Int} {a:af} (ha:Pos a) (h1:bY B a):bY B (fH a):=fun c d hc hd hs=>by rw [kC ha hc,kC ha hd,h1 c d hc hd hs]
theorem UQ {B:List Int} (k:Bool) {a b:af} (ha:Tidy a) (hb:Tidy b) (h1:bY B a) (h2:bY B b):bY B (gN k a b):=by
 cases k
 ·exact xZ ha.pos hb.pos h1 h2
 ·exact Rl ha.pos hb.pos h1 h2
theorem opS_tidy' (k:Bool) {a b:af} (ha:Tidy a) (hb:Tidy b):Tidy (gN k a b):=by
 cases k
 ·exact ja ha.pos hb.pos
 ·exact xE ha.pos hb.pos
theorem jR {B:List Int} {k:Bool}:∀ {l:List af} {s:af},(∀ x∈l,Tidy x/\bY B x)->Tidy s->bY B s->Tidy (l.foldl (gN k) s)/\bY B (l.foldl (gN k) s)
 | [],_,_,h1,h2=>⟨h1,h2⟩
 | x::l,s,h,h1,h2=>by
  have hx:=h x (List.mem_cons_self ..)
  exact jR (l:=l) (fun y hy=>h y (List.mem_cons_of_mem _ hy)) (opS_tidy' k h1 hx.1) (UQ k h1 hx.1 h2 hx.2)
theorem Yu {B:List Int} {k:Bool}:∀ {t:Tm},fU B t->∀ m∈memT k t,fU B m:=by
 intro t
 induction t with
 | bf k' a b _ ih=>
  intro h m hm
  rw [memT] at hm
  split at hm
  ·rcases List.mem_cons.1 hm with rfl | hm
   ·exact h.1
   ·exact ih h.2 m hm
  ·have:m=.bf k' a b:=by simpa using hm
   subst this;exact h
 | _=>
  intro h m hm
  simp [memT] at hm
  subst hm;exact h
theorem JR {B:List Int} {k:Bool}:∀ {l:List Tm},(∀ m∈l,fU B m)->fU B (gZ k l)
 | [],_=>gJ B
 | [a],h=>h a (List.mem_cons_self ..)
 | a::b::l,h=>by
  rw [iT k a (by simp)]
  exact ⟨h a (List.mem_cons_self ..),JR fun m hm=>h m (List.mem_cons_of_mem _ hm)⟩
theorem Rm {B:List Int} {k:Bool} {l:List Tm} (hl:∀ t∈l,Cn t) (h:∀ t∈l,fU B t):fU B (aj k l):=by
 unfold aj p_
 split
 ·cases k<;>exact gJ B
 split
 ·cases k<;>exact gJ B
 ·refine JR fun m hm=>?_
  have hF:∀ m∈l.flatMap (memT k),fU B m:=fun m hm=>by
   obtain ⟨d,hd,hm⟩:=List.mem_flatMap.1 hm
   exact Yu (h d hd) m hm
  have hok:=jJ (k:=k) hl
  rcases aP.1 (List.mem_filter.1 hm).1 with ⟨q,_⟩ | ⟨s,hs,rfl⟩
  ·exact hF m q
  ·cases hq:(l.flatMap (memT k)).filterMap aR with
   | nil=>rw [hq] at hs;cases hs
   | cons a r=>
    rw [hq] at hs
    simp only [fJ,Option.some.injEq] at hs
    subst hs
    have hall:∀ x∈a::r,Tidy x/\bY B x:=fun x hx=>⟨hok (.set x) (cO.1 (hq▸hx)),hF (.set x) (cO.1 (hq▸hx))⟩
    exact (jR (fun x hx=>hall x (List.mem_cons_of_mem _ hx)) (hall a (List.mem_cons_self ..)).1 (hall a (List.mem_cons_self ..)).2).2
theorem JS {a b:Int}:bY [a,b+1] [(a,b)]:=by
 intro c d _ _ hs
 have h1:=hs a (by simp)
 have h2:=hs (b+1) (by simp)
 simp only [dw,List.any_cons,List.any_nil,Bool.or_false]
 rw [Bool.eq_iff_iff]
 simp only [Bool.and_eq_true,decide_eq_true_eq]
 omega
theorem MN {B B':List Int} {x:Int×Int} {l:af} (h1:bY B [x]) (h2:bY B' l):bY (B++B') (x::l):=by
 intro c d hc hd hs
 have e1:=h1 c d hc hd fun b hb=>hs b (List.mem_append_left _ hb)
 have e2:=h2 c d hc hd fun b hb=>hs b (List.mem_append_right _ hb)
 simp only [dw,List.any_cons,List.any_nil,Bool.or_false] at e1 e2 ⊢
 rw [e1,e2]
def JU:af->List Int
 | []=>[]
 | x::l=>[x.1,x.2+1]++JU l
theorem E8:∀ l:af,(JU l).length=2*l.length
 | []=>rfl
 | x::l=>by rw [JU,List.length_append,E8 l];simp;omega
theorem Ca:∀ l:af,bY (JU l) l
 | []=>gJ _
 | _::l=>MN JS (Ca l)
def BS (k:Nat) (s:af):Prop:=∃ B:List Int,B.length<=8*k/\bY B s
theorem BS.cup {k k':Nat} {a b:af} (ha:Pos a) (hb:Pos b) (h:BS k a) (h':BS k' b):BS (k+k') (qH a b):=by
 obtain ⟨B,l1,h1⟩:=h
 obtain ⟨B',l2,h2⟩:=h'
 exact ⟨B++B',by rw [List.length_append];omega,xZ ha hb (h1.mono fun b hb=>List.mem_append_left _ hb) (h2.mono fun b hb=>List.mem_append_right _ hb)⟩
theorem x8 {s:af} (h:s.length<=4):BS 1 s:=⟨JU s,by rw [E8];omega,Ca s⟩
theorem OU (l:List Sy):(jO l).length<=4:=by unfold jO;split<;>simp [zL,vU]
theorem UR {n:Nat} {l l':List Sy} {c:Int} (h:fu n l=.ok (c,l')):l'.length+1<=l.length:=by
 unfold fu at h
 split at h
 ·rename_i q
  have:=eF (l:=l) (by omega)
  have:=uT h
  omega
 ·split at h
  ·simp only [bad] at h;cases h
  ·rename_i q
   have:=eF (l:=l) (by omega)
   cases h;omega
theorem Yv {n:Nat} {l l':List Sy} {s:af} (h:kH n l=.ok (s,l')):l'.length+1<=l.length/\BS 1 s:=by
 unfold kH at h
 split at h
 ·rename_i q
  have q2:hd l=92:=by simp only [isSet,decide_eq_true_eq] at q;exact q.1
  have:=eF (l:=l) (by omega)
  have:=cZ l.tail
  cases h
  exact ⟨by omega,x8 (OU l)⟩
 ·split at h
  ·cases h
  ·rename_i a l1 e
   have h1:=UR e
   split at h
   ·split at h
    ·cases h
    ·rename_i b l2 e2
     have h2:=xX e2
     have h3:=cZ l1
     split at h
     ·simp only [bad] at h;cases h
     ·cases h;exact ⟨by omega,x8 (by simp)⟩
   ·cases h;exact ⟨h1,x8 (by simp)⟩
theorem qj {n:Nat}:∀ (f:Nat) {s s':af} {l l':List Sy} {k:Nat},bq l->Tidy s->BS k s->bR n f s l=.ok (s',l')->∃ k',l'.length+k'<=l.length+k/\BS k' s'
 | 0,_,_,_,_,_,_,_,_,h=>by simp only [bR,bad] at h;cases h
 | f+1,s,s',l,l',k,ha,ht,hs,h=>by
  rw [bR] at h
  split at h
  ·cases h
   exact ⟨k,by have:=cZ l;omega,hs⟩
  ·split at h
   ·cases h
   ·rename_i p l1 e
    obtain ⟨h1,h2⟩:=Yv e
    obtain ⟨hp,hl1⟩:=Eu (n:=n) ha _ _ e
    obtain ⟨k',h3,h4⟩:=qj f hl1 (ja ht.pos hp) (hs.cup ht.pos hp h2) h
    exact ⟨k',by omega,h4⟩
theorem Yw {n:Nat} {s:af} {l l':List Sy} (ha:bq l) (h:gp n l=.ok (s,l')):∃ k,l'.length+k<=l.length/\BS k s:=by
 have hlen:=JL h
 unfold gp at h
 split at h
 ·unfold jP at h
  have t1:=cZ l
  split at h
  ·unfold Be at h
   split at h
   ·cases h
   ·rename_i s1 l1 e
    obtain ⟨k,h1,h2⟩:=qj _ (s:=[]) (k:=0) ha.tail.tail trivial ⟨[],by simp,gJ _⟩ e
    have hg:=(kK (n:=n) _ (s:=[]) trivial ha.tail.tail _ _ e).1
    cases h
    obtain ⟨B,b1,b2⟩:=h2
    exact ⟨k,by have:=cZ l.tail;omega,B,b1,tq hg.pos b2⟩
  ·obtain ⟨k,h1,h2⟩:=qj _ (s:=[]) (k:=0) ha.tail trivial ⟨[],by simp,gJ _⟩ h
   exact ⟨k,by omega,h2⟩
 split at h
 ·split at h
  ·cases h
   exact ⟨1,hlen,x8 (OU l)⟩
  ·unfold QS at h
   split at h
   ·cases h
   ·cases h
    exact ⟨1,hlen,x8 (by simp)⟩
 split at h
 ·cases h
  exact ⟨0,by omega,[],by simp,tq n_ (gJ _)⟩
 split at h
 ·simp only [bad] at h;cases h
 ·cases h
  exact ⟨1,hlen,x8 (by simp)⟩
end Go.Proofs.YtfolanohokflkaaGreatDoor
