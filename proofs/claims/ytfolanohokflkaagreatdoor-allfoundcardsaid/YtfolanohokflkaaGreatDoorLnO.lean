import Derived.Test.YtfolanohokflkaaGreatDoorLnJ
import Derived.Test.YtfolanohokflkaaGreatDoorPSpec
namespace Go.Proofs.YtfolanohokflkaaGreatDoor
open Tm (eps)
def nM (c:Int):Tm->Nat
 | .chain a b=>dO (aK c a)+(memT false (aK c (.chain a b))).length+2
 | .star a=>dO (aK c a)
 | .not _=>1
 | .aZ k a b=>(memT k (aK c (.aZ k a b))).length+2
 | _=>0
def kB (h:Tm):Nat:=(2*bE h+1)*62+bE h+6
def kA (t:Tm):Nat:=5*bE t+9
abbrev Gx:=(Tm×Int)×Nat
def adf (t:Tm) (X:List (List Int×Int)):List Gx:=(DY t).flatMap fun p=>X.map fun x=>((aI p.1 x.1,x.2),kB p.1)
def adg (t:Tm) (X:List (List Int×Int)):List Gx:=(DY t).flatMap fun s=>(DY s.1).flatMap fun p=>X.map fun x=>((ax (aI p.1 x.1) p.2,x.2),kA t)
def uy (t:Tm) (X:List (List Int×Int)):List Gx:=adf t X++adg t X
theorem adh {h:Tm} (hh:Cn h) {v:List Int} {c:Int} (hw:iq (v++[c])) (hl:v.length<=60) (hc:bF (aI h v)=false):nM c (aI h v)<=kB h:=by
 have hb:=fun k=>adb hh hw k
 have hm:(2*bE h+1)*(v.length+2)<=(2*bE h+1)*62:=Nat.mul_le_mul_left _ (by omega)
 unfold kB
 cases hx:aI h v with
 | chain a b=>rw [hx] at hc;cases hc
 | set l=>simp [nM]
 | eps=>simp [nM]
 | not a=>simp only [nM];omega
 | aZ k a b=>
  have:=hb k
  rw [hx] at this
  simp only [nM]
  omega
 | star a=>
  have ha:a∈dm h:=uZ v hh (by rw [hx];exact List.mem_cons_self ..)
  obtain ⟨z',p⟩:=JC _ (Nat.le_refl _) eps ha
  have pa:=p.trans (.star (.here _ _))
  have h1:=spine (pa.cn hh trivial).1 (u:=[c]) (fun d hd=>hw d (List.mem_append_right _ hd))
  have h2:=pa.nz
  have e:aI a [c]=aK c a:=rfl
  rw [e] at h1
  simp only [nM]
  omega
theorem adi {t y:Tm} (ht:Cn t) {w:List Int} {c:Int} (hw:iq (w++[c])) (hl:w.length<=60) {X:List (List Int×Int)} (hX:∀ v,v <:+ w->(v,c)∈X) (h:Ht (aI t w) y):bY y=true\/∃ k,((y,c),k)∈uy t X/\nM c y<=k:=by
 rcases EW _ (Nat.le_refl _) ht w hw.left y h with q | ⟨s,z0,p0,h0,z,v,p,hvw,e,hc,he⟩
 ·exact .inl q
 have hs:=(p0.cn ht trivial).1
 have hh:=(p.cn hs trivial).1
 have XQ:iq (v++[c]):=by
  obtain ⟨q,rfl⟩:=hvw
  intro d hd
  refine hw d ?_
  rw [List.append_assoc]
  exact List.mem_append_right _ hd
 have hvl:v.length<=60:=Nat.le_trans hvw.length_le hl
 by_cases gZ:z=eps
 ·subst gZ
  rw [ah] at e
  subst e
  have pc:=p0.comp ht p
  exact .inr ⟨kB h0,List.mem_append_left _ (List.mem_flatMap.2 ⟨_,pc.listed,List.mem_map.2 ⟨(v,c),hX v hvw,rfl⟩⟩),adh hh XQ hvl hc⟩
 by_cases uw:aI h0 v=aG
 ·rw [uw,aR] at e
  subst e
  exact .inl rfl
 have hz:=(p.follow hs trivial (by simp)).1
 have e0:=bB hc uw he hz gZ
 refine .inr ⟨kA t,List.mem_append_right _ (List.mem_flatMap.2 ⟨_,p0.listed,List.mem_flatMap.2 ⟨_,p.listed,List.mem_map.2 ⟨(v,c),hX v hvw,by rw [e]⟩⟩⟩),?_⟩
 rw [e,e0]
 have h1:=ade hs XQ p gZ hc he uw
 have h2:=spine hh XQ
 rw [jc] at h2
 have h3:=p.nz
 have h4:=p0.nz
 simp only [nM,kA]
 omega
def wT (G:List Gx):Nat:=bu (G.map (·.2))
theorem JF (a b:List Gx):wT (a++b)=wT a+wT b:=by unfold wT;rw [List.map_append,kS]
theorem u6 {α:Type} (f:α->Tm×Int) (k:Nat):∀ l:List α,wT (l.map fun x=>(f x,k))=l.length*k
 | []=>by simp [wT,bu]
 | a::l=>by
  have:=u6 f k l
  unfold wT at this ⊢
  simp only [List.map_cons,bu,List.length_cons,this,Nat.add_mul,Nat.one_mul]
  omega
theorem tQ {α:Type} (f:α->List Gx) (g:α->Nat):∀ l:List α,(∀ a∈l,wT (f a)<=g a)->wT (l.flatMap f)<=bu (l.map g)
 | [],_=>by simp [wT,bu]
 | a::l,h=>by
  have h1:=h a (List.mem_cons_self ..)
  have h2:=tQ f g l fun b hb=>h b (List.mem_cons_of_mem _ hb)
  rw [List.flatMap_cons,JF,List.map_cons,bu]
  omega
theorem wU {α:Type} (g:α->Nat) (a b:Nat):∀ l:List α,bu (l.map fun x=>g x*a+b)=bu (l.map g)*a+l.length*b
 | []=>by simp [bu]
 | x::l=>by
  have:=wU g a b l
  simp only [List.map_cons,bu,List.length_cons,this,Nat.add_mul,Nat.one_mul]
  omega
theorem YV {t:Tm} {X:List (List Int×Int)} {n h z:Nat} (hX:X.length<=n) (hh:hF false Option.none t<=h) (hz:bE t<=z):wT (uy t X)<=n*((h*z)*125+(2*z+1)*68)+n*((2*(h*z)+(2*z+1))*(5*z+9)):=by
 have hs:=nL false Option.none t eps
 have hl:=kR false Option.none t eps
 have hS:hF false Option.none t*bE t<=h*z:=Nat.mul_le_mul hh hz
 generalize hS0:bu ((DY t).map fun p=>bE p.1)=S at hs
 have adj:S<=h*z:=Nat.le_trans hs hS
 have adk:(DY t).length<=2*z+1:=by have:(DY t).length<=2*bE t+1:=hl;omega
 unfold uy
 rw [JF]
 refine Nat.add_le_add ?_ ?_
 ·refine Nat.le_trans (tQ _ (fun p:Tm×Tm=>(bE p.1*125+68)*n) _ fun p _=>?_) ?_
  ·rw [u6,Nat.mul_comm]
   exact Nat.mul_le_mul (by unfold kB;omega) hX
  ·have e:(fun p:Tm×Tm=>(bE p.1*125+68)*n)=fun p:Tm×Tm=>bE p.1*(125*n)+68*n:=by
    funext p;rw [Nat.add_mul,Nat.mul_assoc]
   rw [e,wU (fun p:Tm×Tm=>bE p.1),hS0]
   have h1:S*(125*n)<=(h*z)*(125*n):=Nat.mul_le_mul_right _ adj
   have h2:(DY t).length*(68*n)<=(2*z+1)*(68*n):=Nat.mul_le_mul_right _ adk
   refine Nat.le_trans (Nat.add_le_add h1 h2) (Nat.le_of_eq ?_)
   rw [Nat.mul_add,Nat.mul_comm n,Nat.mul_comm n,Nat.mul_assoc (h*z),Nat.mul_assoc (2*z+1)]
 ·refine Nat.le_trans (tQ _ (fun s:Tm×Tm=>(2*bE s.1+1)*(n*(5*z+9))) _ fun s _=>?_) ?_
  ·refine Nat.le_trans (tQ _ (fun _:Tm×Tm=>n*(5*z+9)) _ fun p _=>?_) ?_
   ·rw [u6]
    exact Nat.mul_le_mul hX (by unfold kA;omega)
   ·have e:=wU (fun _:Tm×Tm=>0) 0 (n*(5*z+9)) (DY s.1)
    simp only [Nat.mul_zero,Nat.zero_add] at e
    rw [e]
    exact Nat.mul_le_mul_right _ (kR _ _ _ _)
  ·have e:(fun s:Tm×Tm=>(2*bE s.1+1)*(n*(5*z+9)))=fun s:Tm×Tm=>bE s.1*(2*(n*(5*z+9)))+n*(5*z+9):=by
    funext s;rw [Nat.add_mul,Nat.one_mul,Nat.mul_comm 2,Nat.mul_assoc]
   rw [e,wU (fun p:Tm×Tm=>bE p.1),hS0]
   have h1:S*(2*(n*(5*z+9)))<=(h*z)*(2*(n*(5*z+9))):=Nat.mul_le_mul_right _ adj
   have h2:(DY t).length*(n*(5*z+9))<=(2*z+1)*(n*(5*z+9)):=Nat.mul_le_mul_right _ adk
   refine Nat.le_trans (Nat.add_le_add h1 h2) (Nat.le_of_eq ?_)
   generalize 5*z+9=q
   generalize 2*z+1=r
   generalize h*z=x
   rw [Nat.add_mul,Nat.mul_add]
   congr 1
   ·rw [Nat.mul_left_comm x 2,<-Nat.mul_assoc 2,Nat.mul_left_comm (2*x) n,Nat.mul_assoc 2,Nat.mul_left_comm n 2,Nat.mul_left_comm n x]<;>omega
   ·rw [Nat.mul_left_comm]
def yf (pre:List Int):List Int->List (List Int×Int)
 | []=>[]
 | c::r=>((DX pre).map fun v=>(v,c))++yf (pre++[c]) r
theorem Cb:∀ (r pre:List Int),2*(yf pre r).length=r.length*(2*pre.length+r.length+1)
 | [],_=>by simp [yf]
 | c::r,pre=>by
  have:=Cb r (pre++[c])
  rw [yf,List.length_append,List.length_map,wS,List.length_cons,Nat.mul_add,this,List.length_append]
  simp only [List.length_cons,List.length_nil,Nat.zero_add]
  generalize r.length=n
  generalize pre.length=m
  rw [show 2*(m+1)+n+1=(2*m+(n+1)+1)+1 from by omega,Nat.mul_add n _ 1,Nat.add_mul n 1]
  omega
theorem Cc {v:List Int} {c:Int}:∀ (a b pre:List Int),v <:+ pre++a->(v,c)∈yf pre (a++c::b)
 | [],b,pre,h=>by
  rw [List.append_nil] at h
  exact List.mem_append_left _ (List.mem_map.2 ⟨v,rY h,rfl⟩)
 | d::a,b,pre,h=>by
  refine List.mem_append_right _ (Cc a b (pre++[d]) ?_)
  simpa using h
def nN (L:List Int):List (List Int×Int):=yf [] L
theorem M6 {L:List Int} (h:L.length<=60):(nN L).length<=1830:=by
 have:=Cb L []
 simp only [List.length_nil,Nat.mul_zero,Nat.zero_add] at this
 have h2:L.length*(L.length+1)<=60*61:=Nat.mul_le_mul h (by omega)
 unfold nN
 omega
theorem M7 {L a b v w:List Int} {c:Int} (e:L=a++c::b) (hw:w <:+ a) (hv:v <:+ w):(v,c)∈nN L:=by
 rw [e];exact Cc a b [] (by simpa using hv.trans hw)
theorem adl {t:Tm} (h:bF t=false):hF true Option.none t=hF false Option.none t:=by cases t<;>first | rfl | cases h
theorem adm (t:Tm):hF false Option.none t<=hF true Option.none t+1:=by
 cases t with
 | chain a b=>simp only [hF];simp
 | _=>exact Nat.le_succ _
theorem adn (t:Tm):hF true Option.none t<=hF false Option.none t:=by
 cases t with
 | chain a b=>simp only [hF];simp
 | _=>exact Nat.le_refl _
theorem aaG (k:Bool) (t:Tm):hF false (some k) t<=hF false Option.none t:=by
 cases t with
 | aZ k' a b=>simp only [hF];split<;>simp
 | _=>exact Nat.le_refl _
theorem YW {k:Bool} {t:Tm} (h:dD k t=true):hF false (some k) t=hF false Option.none t:=by
 cases t with
 | aZ k' a b=>
  have:k'≠k:=by simpa [dD] using h
  simp [hF,Ne.symm this]
 | _=>rfl
theorem Va {k:Bool} {m:Tm}:∀ (t:Tm),m∈memT k t->dD k m=true->hF false Option.none m<=hF false (some k) t
 | t,h,hm=>by
  rcases iP k t with ⟨a,b,rfl⟩ | hn
  ·rw [gX] at h
   simp only [hF,if_true,Nat.add_zero]
   rcases List.mem_cons.1 h with rfl | h
   ·exact Nat.le_max_left _ _
   ·exact Nat.le_trans (Va b h hm) (Nat.le_max_right _ _)
  ·rw [bf hn] at h
   have:m=t:=by simpa using h
   subst this
   rw [YW hn];exact Nat.le_refl _
theorem RD:∀ (u z:Tm),bE (ax u z)<=bE u+bE z+1:=by
 intro u
 induction u with
 | chain a b iha ihb=>
  intro z
  have h1:=iha (ax b z)
  have h2:=ihb z
  rw [ax]
  split
  ·simp only [bE];omega
  ·split
   ·simp only [bE];omega
   ·simp only [bE];omega
 | _=>
  intro z
  simp only [ax]
  repeat' split
  all_goals simp only [bE]
  all_goals omega
theorem RF {n:Nat}:∀ (u z:Tm),Cn u->hF true Option.none u<=n->hF true Option.none z<=n->hF true Option.none (ax u z)<=n:=by
 intro u
 induction u with
 | chain a b iha ihb=>
  intro z hu h1 h2
  simp only [hF,if_true,Nat.add_zero] at h1
  have ha:hF true Option.none a<=n:=by rw [adl hu.2.2.1];omega
  have hb:hF true Option.none b<=n:=by omega
  have h3:=ihb z hu.2.1 hb h2
  have h4:=iha _ hu.1 ha h3
  rw [ax]
  split
  ·simp [hF]
  ·split
   ·simp only [hF,if_true,Nat.add_zero];omega
   ·exact h4
 | _=>
  intro z _ h1 h2
  simp only [ax]
  simp only [hF] at h1
  repeat' split
  all_goals try simp only [hF,if_true,Nat.add_zero] at *
  all_goals omega
theorem Gt:∀ {l:List Tm},l≠[]->bE (kI l)+1<=bu (l.map fun t=>bE t+1)
 | [],h=>absurd rfl h
 | [a],_=>by simp [kI,ah,bu]
 | a::b::l,_=>by
  have ih:=Gt (l:=b::l) (by simp)
  have h1:=RD a (kI (b::l))
  rw [List.map_cons,bu]
  show bE (ax a (kI (b::l)))+1<=_
  omega
theorem Vb {n:Nat}:∀ {l:List Tm},(∀ t∈l,Cn t)->(∀ t∈l,hF false Option.none t<=n)->hF true Option.none (kI l)<=n
 | [],_,_=>by simp [kI,hF]
 | a::l,hc,h=>RF a (kI l) (hc a (List.mem_cons_self ..)) (Nat.le_trans (adn a) (h a (List.mem_cons_self ..))) (Vb (fun t ht=>hc t (List.mem_cons_of_mem _ ht)) fun t ht=>h t (List.mem_cons_of_mem _ ht))
theorem M8 {n:Nat} {l:List Tm} (hc:∀ t∈l,Cn t) (h:∀ t∈l,hF false Option.none t<=n):hF false Option.none (kI l)<=n+1:=by
 have:=adm (kI l)
 have:=Vb hc h
 omega
theorem O4 (a:Tm):bE (gV a)<=bE a+1:=by
 unfold gV
 split
 ·simp [bE]
 ·cases a<;>simp [bE]
theorem YX (a:Tm):hF false Option.none (gV a)<=hF false Option.none a+1:=by
 unfold gV
 split
 ·simp [hF]
 ·cases a<;>simp [hF]
theorem abw (a:Tm):bE (ku a)<=bE a+1:=by cases a<;>simp [ku,bE]<;>omega
theorem abx (a:Tm):hF false Option.none (ku a)<=hF false Option.none a+1:=by
 cases a with
 | not x=>simp only [ku,hF];omega
 | _=>simp [ku,hF]
theorem Ve (k:Bool) (t:Tm):bu ((memT k t).map fun m=>bE m+1)=bE t+1:=by
 induction t with
 | aZ k' a b _ ih=>
  by_cases e:k'=k
  ·subst e
   rw [gX,List.map_cons,bu,ih]
   simp only [bE];omega
  ·rw [memT,if_neg e];simp [bu]
 | _=>simp [memT,bu]
theorem O5 (k:Bool):∀ {l:List Tm},l≠[]->bE (gW k l)+1=bu (l.map fun m=>bE m+1)
 | [],h=>absurd rfl h
 | [a],_=>by simp [gW,bu]
 | a::b::l,_=>by
  have ih:=O5 k (l:=b::l) (by simp)
  rw [iQ k a (by simp),List.map_cons,bu,<-ih]
  simp only [bE];omega
theorem Gu (k:Bool):∀ l:List Tm,bu ((l.flatMap (memT k)).map fun m=>bE m+1)=bu (l.map fun m=>bE m+1)
 | []=>rfl
 | a::l=>by rw [List.flatMap_cons,List.map_append,kS,Ve,Gu k l,List.map_cons,bu]
theorem Gv {α:Type} [DecidableEq α] (f:α->Nat):∀ {l m:List α},l.Nodup->(∀ x∈l,x∈m)->bu (l.map f)<=bu (m.map f)
 | [],_,_,_=>Nat.zero_le _
 | a::l,m,hn,hs=>by
  have hn':=List.nodup_cons.1 hn
  have ha:=hs a (List.mem_cons_self ..)
  have ih:=Gv f (l:=l) (m:=m.erase a) hn'.2 fun x hx=>by
   have hne:x≠a:=by rintro rfl;exact hn'.1 hx
   exact (List.mem_erase_of_ne hne).2 (hs x (List.mem_cons_of_mem _ hx))
  have e:∀ m:List α,a∈m->bu (m.map f)=f a+bu ((m.erase a).map f):=by
   intro m
   induction m with
   | nil=>intro h;cases h
   | cons b m ih=>
    intro h
    rw [List.erase_cons]
    split
    ·rename_i q
     rw [eq_of_beq q];rfl
    ·rename_i q
     have:a∈m:=by
      rcases List.mem_cons.1 h with e | h
      ·exact absurd (by rw [e];simp) q
      ·exact h
     rw [List.map_cons,bu,ih this,List.map_cons,bu];omega
  rw [List.map_cons,bu,e m ha]
  omega
theorem JG {k:Bool} {l:List Tm} (hl:∀ t∈l,Cn t) (h2:2<=l.length):bE (aj k l)+1<=bu (l.map fun m=>bE m+1):=by
 have hbig:∀ l:List Tm,l.length<=bu (l.map fun m=>bE m+1):=fun l=>by
  induction l with
  | nil=>simp [bu]
  | cons a l ih=>rw [List.map_cons,bu,List.length_cons];omega
 have htr:∀ t:Tm,bY t=true->bE t+1<=bu (l.map fun m=>bE m+1):=fun t ht=>by
  have:=hbig l
  have:bE t<=1:=by
   cases t with
   | not a=>cases a with
    | set s=>cases s<;>simp [bE]
    | _=>simp [bY] at ht
   | set s=>simp [bE]
   | eps=>simp [bE]
   | _=>simp [bY] at ht
  omega
 have hok:∀ t∈l.flatMap (memT k),jW t:=jJ hl
 rw [<-Gu k]
 rw [<-Gu k] at htr
 generalize hF:l.flatMap (memT k)=F at *
 have aer:∀ L:List Tm,L≠[]->L.Nodup->(∀ m∈L,m∈aU k F)->bE (gW k L)+1<=bu (F.map fun m=>bE m+1):=by
  intro L hne hn hs
  rw [O5 k hne]
  cases hf:fG k (F.filterMap aQ) with
  | none=>
   refine Gv _ hn fun x hx=>?_
   rcases aP.1 (hs x hx) with ⟨h,_⟩ | ⟨s,h,_⟩
   ·exact h
   ·rw [hf] at h;cases h
  | some s=>
   obtain ⟨s0,hs0⟩:=wQ hf
   have e:L.map (fun m=>bE m+1)=(L.map fun m=>if m=.set s then .set s0 else m).map fun m=>bE m+1:=by
    rw [List.map_map]
    refine List.map_congr_left fun m _=>?_
    simp only [Function.comp]
    split
    ·rename_i q;rw [q];rfl
    ·rfl
   have hcase:∀ x∈L,x=.set s\/(x∈F/\aQ x=Option.none):=fun x hx=>by
    rcases aP.1 (hs x hx) with h | ⟨s',h,rfl⟩
    ·exact .inr h
    ·rw [hf] at h;cases h;exact .inl rfl
   rw [e]
   refine Gv _ ?_ fun x hx=>?_
   ·rw [List.nodup_iff_pairwise_ne,List.pairwise_map]
    refine List.Pairwise.imp_of_mem (fun {a b} ha hb hab=>?_) hn
    rcases hcase a ha with rfl | ⟨ha1,ha2⟩
    ·rcases hcase b hb with rfl | ⟨hb1,hb2⟩
     ·exact absurd rfl hab
     ·rw [if_pos rfl,if_neg (by rintro rfl;cases hb2)]
      rintro rfl;cases hb2
    ·rw [if_neg (by rintro rfl;cases ha2)]
     rcases hcase b hb with rfl | ⟨hb1,hb2⟩
     ·rw [if_pos rfl];rintro rfl;cases ha2
     ·rw [if_neg (by rintro rfl;cases hb2)];exact hab
   ·obtain ⟨y,hy,rfl⟩:=List.mem_map.1 hx
    rcases hcase y hy with rfl | ⟨hy1,hy2⟩
    ·rw [if_pos rfl];exact hs0
    ·rw [if_neg (by rintro rfl;cases hy2)];exact hy1
 unfold aj qi
 rw [hF]
 split
 ·exact htr _ (x_ k)
 split
 ·exact htr _ (tK k)
 ·rename_i hne
  refine aer _ hne ((xW (nD hok).2).filter _) fun m hm=>(List.mem_filter.1 hm).1
theorem O6 {k:Bool} {n:Nat}:∀ {l:List Tm},(∀ t∈l,hF false Option.none t<=n)->hF false (some k) (gW k l)<=n
 | [],_=>by simp [gW,hF]
 | [a],h=>Nat.le_trans (aaG k a) (h a (List.mem_cons_self ..))
 | a::b::l,h=>by
  have ih:=O6 (k:=k) (l:=b::l) fun t ht=>h t (List.mem_cons_of_mem _ ht)
  have:=h a (List.mem_cons_self ..)
  rw [iQ k a (by simp)]
  simp only [hF,if_true,Nat.add_zero]
  omega
theorem YY (k:Bool) (t:Tm):hF false Option.none t<=hF false (some k) t+1:=by
 cases t with
 | aZ k' a b=>
  by_cases e:k'=k
  ·subst e;simp only [hF];simp
  ·simp only [hF];simp [Ne.symm e]
 | _=>exact Nat.le_succ _
theorem JH {k:Bool} {n:Nat} {l:List Tm} (hl:∀ t∈l,Cn t) (h:∀ t∈l,hF false Option.none t<=n):hF false Option.none (aj k l)<=n+1:=by
 unfold aj qi
 split
 ·cases k<;>simp [ed,hF]
 split
 ·cases k<;>simp [bC,hF]
 ·refine Nat.le_trans (YY k _) (Nat.succ_le_succ (O6 fun t ht=>?_))
  rcases aP.1 (List.mem_filter.1 ht).1 with ⟨q,_⟩ | ⟨s,_,rfl⟩
  ·obtain ⟨d,hd,hm⟩:=List.mem_flatMap.1 q
   exact Nat.le_trans (Va d hm ((hl d hd).members t hm).2) (Nat.le_trans (aaG k d) (h d hd))
  ·simp [hF]
def O7 (k s:Nat) (t:Tm):Prop:=∃ u L q,bE t+3<=s*(3+u)/\hF false Option.none t<=L+q/\2 ^ q<=s/\L+3*u<=k
theorem Ad {k s:Nat} {t:Tm} (hs:1<=s) (h1:bE t=0) (h2:hF false Option.none t=0):O7 k s t:=
 ⟨0,0,0,by omega,by omega,by simpa using hs,by omega⟩
theorem aby {k s:Nat} {t:Tm} (h:O7 k s t):O7 (k+1) (s+1) (ku t):=by
 obtain ⟨u,L,q,h1,h2,h3,h4⟩:=h
 have:=abw t
 have:=abx t
 exact ⟨u,L+1,q,by rw [Nat.add_mul];omega,by omega,by omega,by omega⟩
def WtL (k s:Nat) (l:List Tm):Prop:=∃ u L q,bu (l.map fun t=>bE t+3)<=s*(3+u)/\(∀ t∈l,hF false Option.none t<=L+q)/\2 ^ q<=s/\L+3*u<=k
theorem YZ {k s:Nat} {t:Tm} (h:O7 k s t):WtL k s [t]:=by
 obtain ⟨u,L,q,h1,h2,h3,h4⟩:=h
 exact ⟨u,L,q,by simpa [bu] using h1,by simpa using h2,h3,h4⟩
theorem Vf {s u v:Nat} (h:u<=v):s*(3+u)<=s*(3+v):=Nat.mul_le_mul_left _ (by omega)
theorem Vg {k k' s s':Nat} {l:List Tm} {t:Tm} (h:WtL k s l) (h':O7 k' s' t):WtL (k+k') (s+s') (l++[t]):=by
 obtain ⟨u,L,q,h1,h2,h3,h4⟩:=h
 obtain ⟨u',L',q',h1',h2',h3',h4'⟩:=h'
 have a1:=Vf (s:=s) (Nat.le_max_left u u')
 have a2:=Vf (s:=s') (Nat.le_max_right u u')
 refine ⟨max u u',max L L',max q q',?_,?_,?_,by omega⟩
 ·rw [List.map_append,kS,Nat.add_mul]
  simp only [List.map_cons,List.map_nil,bu,Nat.add_zero]
  omega
 ·intro x hx
  rcases List.mem_append.1 hx with hx | hx
  ·have:=h2 x hx;omega
  ·have:x=t:=by simpa using hx
   subst this;omega
 ·rcases Nat.le_total q q' with e | e
  ·rw [Nat.max_eq_right e];omega
  ·rw [Nat.max_eq_left e];omega
theorem EY:∀ l:List Tm,bu (l.map fun t=>bE t+3)=bu (l.map fun t=>bE t+1)+2*l.length
 | []=>rfl
 | a::l=>by rw [List.map_cons,bu,EY l,List.map_cons,bu,List.length_cons];omega
theorem O8 {k s n:Nat} {l:List Tm} {t:Tm} (h:WtL k s l) (hn:l.length=n+2) (h1:bE t+1<=bu (l.map fun t=>bE t+1)) (h2:∀ m,(∀ t∈l,hF false Option.none t<=m)->hF false Option.none t<=m+1):O7 (k+1) (s+(n+1)) t:=by
 obtain ⟨u,L,q,g1,g2,g3,g4⟩:=h
 have:=h2 _ g2
 rw [EY] at g1
 refine ⟨u,L+1,q,?_,by omega,by omega,by omega⟩
 rw [Nat.add_mul]
 have:(n+1)*3<=(n+1)*(3+u):=Nat.mul_le_mul_left _ (by omega)
 omega
def wV (d:Nat) (o:jX):Prop:=match o.2.1 with
 | Option.none=>(o.2.2=2/\o.1<=1/\1<=d)\/(o.2.2=(o.1:Int)+1/\4<=d)
 | some m=>(o.1=0/\m=1/\o.2.2=2/\1<=d)\/(o.1<=m/\o.2.2=max (m:Int) 1/\3<=d/\(o.1<m->5<=d))
theorem JI (a b:List Tm):kI (a++b)=a.foldr ax (kI b):=by simp [kI,List.foldr_append]
theorem Gw (n:Nat) (t:Tm):bu ((List.replicate n t).map fun t=>bE t+1)=n*(bE t+1):=by
 induction n with
 | zero=>simp [bu]
 | succ n ih=>rw [List.replicate_succ,List.map_cons,bu,ih,Nat.add_mul (n) 1];omega
theorem JJ (t:Tm) (n:Nat):nZ t n Option.none=kI (List.replicate n t++[gV t]):=by
 rw [JI];simp [nZ,kI,ah]
theorem JK (t:Tm) (n m:Nat):nZ t n (some m)=kI (List.replicate n t++List.replicate (m - n) (pF t)):=by
 rw [JI];rfl
theorem Vh {t:Tm} (ht:Cn t):bE (pF t)<=bE t+1:=by
 have:=JG (k:=false) (l:=[eps,t]) (by simpa using ⟨trivial,ht⟩) (by simp)
 simp only [List.map_cons,List.map_nil,bu,bE] at this
 unfold pF
 omega
theorem abz {t:Tm} (ht:Cn t):hF false Option.none (pF t)<=hF false Option.none t+1:=JH (by simpa using ⟨trivial,ht⟩) (by simp [hF])
theorem wW {q s:Nat} (h:2 ^ q<=s) {f:Nat} (hf:1<=f):2 ^ q<=s*f:=Nat.le_trans h (Nat.le_mul_of_pos_right _ hf)
theorem abA {k s f d:Nat} {t:Tm} {o:jX} (ht:Cn t) (h:O7 k s t) (hs:1<=s) (hf:o.2.2=(f:Int)) (ho:wV d o):O7 (k+d) (s*f) (nZ t o.1 o.2.1):=by
 obtain ⟨n,om,ff⟩:=o
 obtain ⟨u,L,q,h1,h2,h3,h4⟩:=h
 dsimp only at hf ⊢
 subst hf
 have hst:=OL ht
 have hop:=Uz ht
 have e1:=O4 t
 have e2:=YX t
 have e3:=Vh ht
 have e4:=abz ht
 cases om with
 | none=>
  dsimp only [wV] at ho
  have hz:=Gt (l:=List.replicate n t++[gV t]) (by simp)
  have hh:=M8 (n:=hF false Option.none t+1) (l:=List.replicate n t++[gV t]) (by
   intro x hx
   rcases List.mem_append.1 hx with hx | hx
   ·rw [(List.mem_replicate.1 hx).2];exact ht
   ·simp at hx;subst hx;exact hst) (by
   intro x hx
   rcases List.mem_append.1 hx with hx | hx
   ·rw [(List.mem_replicate.1 hx).2];omega
   ·simp at hx;subst hx;exact e2)
  rw [<-JJ] at hz hh
  rw [List.map_append,kS,Gw] at hz
  simp only [List.map_cons,List.map_nil,bu,Nat.add_zero] at hz
  rcases ho with ⟨hf,hn,hd⟩ | ⟨hf,hd⟩
  ·have hf2:f=2:=by omega
   subst hf2
   rcases Nat.lt_or_ge 0 n with hn0 | hn0
   ·have:n=1:=by omega
    subst this
    refine ⟨u,L+1,q+1,?_,by omega,by rw [Nat.pow_succ];exact Nat.mul_le_mul_right _ h3,by omega⟩
    rw [Nat.mul_assoc,Nat.mul_comm 2,<-Nat.mul_assoc]
    omega
   ·have:n=0:=by omega
    subst this
    rw [show nZ t 0 Option.none=gV t from by simp [nZ]] at *
    refine ⟨u,L+1,q,?_,by omega,wW h3 (by omega),by omega⟩
    rw [Nat.mul_assoc,Nat.mul_comm 2,<-Nat.mul_assoc]
    omega
  ·have hf2:f=n+1:=by omega
   subst hf2
   rcases Nat.lt_or_ge 0 n with hn0 | hn0
   ·refine ⟨u,L+2,q,?_,by omega,wW h3 (by omega),by omega⟩
    have a1:(bE t+3)*(n+1)<=s*(3+u)*(n+1):=Nat.mul_le_mul_right _ h1
    rw [Nat.mul_assoc,Nat.mul_comm (n+1),<-Nat.mul_assoc]
    rw [Nat.add_mul,Nat.mul_add] at a1
    rw [Nat.mul_add,Nat.mul_comm n] at hz
    omega
   ·have:n=0:=by omega
    subst this
    rw [show nZ t 0 Option.none=gV t from by simp [nZ]] at *
    refine ⟨u+1,L+1,q,?_,by omega,wW h3 (by omega),by omega⟩
    rw [show 3+(u+1)=(3+u)+1 from by omega,Nat.zero_add,Nat.mul_one,Nat.mul_add]
    omega
 | some m=>
  dsimp only [wV] at ho
  rcases ho with ⟨rfl,rfl,hf,hd⟩ | ⟨hnm,hf,hd,hd5⟩
  ·have hf2:f=2:=by omega
   subst hf2
   rw [show nZ t 0 (some 1)=pF t from by simp [nZ,kI,ah]]
   refine ⟨u,L+1,q,?_,by omega,wW h3 (by omega),by omega⟩
   rw [Nat.mul_assoc,Nat.mul_comm 2,<-Nat.mul_assoc]
   omega
  ·rcases Nat.lt_or_ge 1 m with hm | hm
   ·have hf2:f=m:=by omega
    subst hf2
    have hz:=Gt (l:=List.replicate n t++List.replicate (f - n) (pF t)) (by
     intro e
     have:=congrArg List.length e
     simp at this
     omega)
    have hh:=M8 (n:=hF false Option.none t+1) (l:=List.replicate n t++List.replicate (f - n) (pF t)) (by
     intro x hx
     rcases List.mem_append.1 hx with hx | hx
     ·rw [(List.mem_replicate.1 hx).2];exact ht
     ·rw [(List.mem_replicate.1 hx).2];exact hop) (by
     intro x hx
     rcases List.mem_append.1 hx with hx | hx
     ·rw [(List.mem_replicate.1 hx).2];omega
     ·rw [(List.mem_replicate.1 hx).2];exact e4)
    rw [<-JK] at hz hh
    rw [List.map_append,kS,Gw,Gw] at hz
    refine ⟨u,L+2,q,?_,by omega,wW h3 (by omega),by omega⟩
    have a1:(bE t+3)*f<=s*(3+u)*f:=Nat.mul_le_mul_right _ h1
    rw [Nat.mul_assoc,Nat.mul_comm f,<-Nat.mul_assoc]
    have a2:(f - n)*(bE (pF t)+1)<=(f - n)*(bE t+2):=Nat.mul_le_mul_left _ (by omega)
    have a3:n*(bE t+1)<=n*(bE t+2):=Nat.mul_le_mul_left _ (by omega)
    have a4:n*(bE t+2)+(f - n)*(bE t+2)=f*(bE t+2):=by rw [<-Nat.add_mul];congr 1;omega
    rw [Nat.mul_comm f,Nat.add_mul] at a4
    rw [Nat.add_mul] at a1
    omega
   ·have hf2:f=1:=by omega
    subst hf2
    rw [Nat.mul_one]
    rcases Nat.lt_or_ge n m with hlt | hge
    ·have e0:n=0:=by omega
     have e1:m=1:=by omega
     subst e0 e1
     rw [show nZ t 0 (some 1)=pF t from by simp [nZ,kI,ah]]
     have:=hd5 hlt
     refine ⟨u+1,L+1,q,?_,by omega,h3,by omega⟩
     rw [show 3+(u+1)=(3+u)+1 from by omega,Nat.mul_add]
     omega
    ·have e0:n=m:=by omega
     subst e0
     rcases Nat.lt_or_ge 0 n with hn0 | hn0
     ·have:n=1:=by omega
      subst this
      rw [show nZ t 1 (some 1)=t from by simp [nZ,kI,ah]]
      exact ⟨u,L,q,h1,h2,h3,by omega⟩
     ·have:n=0:=by omega
      subst this
      rw [show nZ t 0 (some 0)=eps from by simp [nZ,kI]]
      exact Ad hs rfl rfl
theorem eu {l:List Sy} (h:0<=hd l):l.tail.length+1=l.length:=by
 cases l with
 | nil=>exact absurd h (by decide)
 | cons x l=>rfl
theorem cB (l:List Sy):l.tail.length<=l.length:=by simp
theorem O9:∀ (f:Nat) (v:Int) (k:Nat) (l:List Sy),(uG f v k l).2.2.length<=l.length
 | 0,_,_,_=>Nat.le_refl _
 | f+1,v,k,l=>by
  rw [uG];split
  ·exact Nat.le_trans (O9 f _ _ _) (cB l)
  ·exact Nat.le_refl _
theorem Vi {n:Nat} {l l':List Sy} {c:Int} (h:oV n l=.ok (c,l')):l'.length<=l.length:=by
 unfold oV lL at h
 repeat' split at h
 all_goals first
  | (simp only [bad] at h;cases h;done)
  | (cases h;exact Nat.le_trans (cB _) (Nat.le_trans (O9 _ _ _ _) (cB l)))
theorem u7 {n:Nat} {l l':List Sy} {c:Int} (h:fC n l=.ok (c,l')):l'.length<=l.length:=by
 unfold fC at h
 split at h
 ·exact Nat.le_trans (Vi h) (cB l)
 ·repeat' split at h
  all_goals first
   | (simp only [bad] at h;cases h;done)
   | (cases h;exact cB l)
theorem yg {n:Nat} {l l':List Sy} {c:Int} (h:eZ n l=.ok (c,l')):l'.length<=l.length:=by
 unfold eZ at h
 split at h
 ·exact Nat.le_trans (u7 h) (cB l)
 ·split at h
  ·simp only [bad] at h;cases h
  ·cases h;exact cB l
theorem Vj {n:Nat} {l l':List Sy} {s:af} (h:kJ n l=.ok (s,l')):l'.length<=l.length:=by
 unfold kJ at h
 split at h
 ·cases h;exact Nat.le_trans (cB _) (cB l)
 ·split at h
  ·cases h
  ·rename_i a l1 e
   have h1:=yg e
   split at h
   ·split at h
    ·cases h
    ·rename_i b l2 e2
     have h2:=yg e2
     have h3:=cB l1
     split at h
     ·simp only [bad] at h;cases h
     ·cases h;omega
   ·cases h;exact h1
theorem oL {n:Nat}:∀ (f:Nat) {s s':af} {l l':List Sy},bP n f s l=.ok (s',l')->l'.length<=l.length
 | 0,_,_,_,_,h=>by simp only [bP,bad] at h;cases h
 | f+1,s,s',l,l',h=>by
  rw [bP] at h
  split at h
  ·cases h;exact cB l
  ·split at h
   ·cases h
   ·rename_i p l1 e
    have:=Vj e
    have:=oL f h
    omega
theorem RG {n:Nat} {s:af} {l l':List Sy} (h:jO n l=.ok (s,l')):l'.length<=l.length:=by
 unfold jO at h
 split at h
 ·unfold Br at h
  split at h
  ·cases h
  ·rename_i s1 l1 e
   have:=oL _ e
   have:=cB l
   cases h;omega
 ·exact oL _ h
theorem JL {n:Nat} {s:af} {l l':List Sy} (h:fZ n l=.ok (s,l')):l'.length+1<=l.length:=by
 unfold fZ at h
 split at h
 ·rename_i q
  have:=RG h
  have:=eu (l:=l) (by omega)
  omega
 split at h
 ·rename_i q
  have h0:=eu (l:=l) (by omega)
  split at h
  ·cases h
   have:=cB l.tail
   omega
  ·unfold Rb at h
   split at h
   ·cases h
   ·rename_i c l1 e
    have:=u7 e
    cases h;omega
 split at h
 ·rename_i q
  have h0:=eu (l:=l) (by omega)
  cases h;omega
 split at h
 ·simp only [bad] at h;cases h
 ·rename_i q
  have h0:=eu (l:=l) (by omega)
  cases h;omega
theorem O_ {n:Nat} {least v:Int} {l l':List Sy} (h:bQ n least l=.ok (v,l')):0<=v/\least<=v/\l'.length+1<=l.length:=by
 unfold bQ at h
 split at h
 ·rename_i hdig
  have hd0:48<=hd l/\hd l<=57:=by simpa [iH] using hdig
  have h0:=eu (l:=l) (by omega)
  split at h
  ·simp only [bad] at h;cases h
  ·rename_i hr
   simp only [Except.ok.injEq] at h
   have e1:(kT l).1=v:=by rw [h]
   have e2:(kT l).2=l':=by rw [h]
   have hl:¬ (kT l).1<least:=fun q=>hr (.inl q)
   rw [e1] at hl
   refine ⟨?_,by omega,?_⟩
   ·rw [<-e1];unfold kT;split
    ·rename_i q
     have:48<=hd l.tail/\hd l.tail<=57:=by simpa [iH] using q.2
     show 0<=10*(hd l - 48)+(hd l.tail - 48)
     omega
    ·show 0<=hd l - 48
     omega
   ·rw [<-e2];unfold kT
    have:=cB l.tail
    split
    ·show l.tail.tail.length+1<=_;omega
    ·show l.tail.length+1<=_;omega
 ·simp only [bad] at h;cases h
theorem JM {n:Nat} {m o:jX} {l l':List Sy} (h:gN n m l=.ok (o,l')):o=m/\l'.length+1<=l.length:=by
 unfold gN at h
 split at h
 ·rename_i q
  have:=eu (l:=l) (by omega)
  cases h;exact ⟨rfl,by omega⟩
 ·simp only [bad] at h;cases h
theorem aaH {m:Int} (h:0<=m):ko m=max ((m.toNat:Nat):Int) 1:=by
 unfold ko;split<;>omega
theorem yh {n:Nat} {o:jX} {l l':List Sy} (hr:mE (hd l)=true) (h:eQ n l=.ok (o,l')):∃ d,wV d o/\l'.length+d<=l.length/\∃ f:Nat,1<=f/\o.2.2=(f:Int):=by
 have hp:0<=hd l:=by
  unfold mE at hr
  simp at hr
  omega
 have h0:=eu hp
 unfold eQ at h
 split at h
 ·unfold ja at h
  split at h
  ·cases h
  ·rename_i a l1 e
   obtain ⟨ha,_,hl1⟩:=O_ e
   split at h
   ·rename_i q
    have h1:=eu (l:=l1) (by omega)
    split at h
    ·rename_i q2
     have h2:=eu (l:=l1.tail) (by omega)
     cases h
     refine ⟨4,.inr ⟨?_,Nat.le_refl _⟩,by omega,(a+1).toNat,by omega,?_⟩
     ·show a+1=((a.toNat:Nat):Int)+1;omega
     ·show a+1=(((a+1).toNat:Nat):Int);omega
    ·split at h
     ·cases h
     ·rename_i m l2 e2
      obtain ⟨hm,hm2,hl2⟩:=O_ e2
      obtain ⟨rfl,hl3⟩:=JM h
      refine ⟨5,.inr ⟨?_,aaH hm,by omega,fun _=>Nat.le_refl _⟩,by omega,(ko m).toNat,?_,?_⟩
      ·show a.toNat<=m.toNat;omega
      ·unfold ko;split<;>omega
      ·show ko m=_;have:0<=ko m:=by unfold ko;split<;>omega
       omega
   ·obtain ⟨rfl,hl3⟩:=JM h
    refine ⟨3,.inr ⟨Nat.le_refl _,aaH ha,Nat.le_refl _,fun q=>absurd q (Nat.lt_irrefl _)⟩,by omega,(ko a).toNat,?_,?_⟩
    ·unfold ko;split<;>omega
    ·show ko a=_;have:0<=ko a:=by unfold ko;split<;>omega
     omega
 ·split at h
  ·cases h
   exact ⟨1,.inl ⟨rfl,by simp,Nat.le_refl _⟩,by omega,2,by omega,rfl⟩
  ·split at h
   ·cases h
    exact ⟨1,.inl ⟨rfl,by simp,Nat.le_refl _⟩,by omega,2,by omega,rfl⟩
   ·cases h
    exact ⟨1,.inl ⟨rfl,rfl,rfl,Nat.le_refl _⟩,by omega,2,by omega,rfl⟩
def Hu (k:Nat) (p:Pn):Prop:=1<=p.2/\(p.2<=60->O7 k p.2.toNat (cZ p.1))
abbrev abB (d:Nat) (l:List Sy) (r:bn Pn):Prop:=∀ v l',r=.ok (v,l')->∃ k,l'.length+k+d<=l.length/\Hu k v
abbrev WA (d:Nat) (a:List Sy->bn Pn):Prop:=∀ l,bg l->abB d l (a l)
theorem Ae {x:Int} (h:dA x<=60):dA x=x:=by unfold dA at *;split<;>simp_all<;>omega
theorem Pd {x:Int} (h:1<=x):1<=dA x:=by unfold dA;split<;>omega
theorem Gy {n:Nat} {l:List Sy}:abB 1 l (oo (fZ n l)):=by
 intro v l' h
 unfold oo at h
 split at h
 ·cases h
 ·rename_i s l1 e
  have:=JL e
  cases h
  refine ⟨0,by omega,Int.le_refl _,fun _=>Ad (Nat.le_refl _) ?_ ?_⟩<;>rw [cZ]<;>rfl
theorem Pe {k:Nat} {p:Pn} (h:Hu k p):Hu (k+1) (I4 p):=by
 refine ⟨Pd (by have:=h.1;omega),fun hq=>?_⟩
 have e:=Ae hq
 show O7 _ (dA (p.2+1)).toNat (cZ (.not p.1))
 have hq':dA (p.2+1)<=60:=hq
 rw [e] at hq' ⊢
 rw [cZ,show (p.2+1).toNat=p.2.toNat+1 from by have:=h.1;omega]
 exact aby (h.2 (by omega))
theorem Pf {k d f:Nat} {p:Pn} {o:jX} (hc:uV p) (h:Hu k p) (hf:o.2.2=(f:Int)) (hf1:1<=f) (ho:wV d o):Hu (k+d) (I1 p o):=by
 have hp:=h.1
 have e0:p.2*o.2.2=((p.2.toNat*f:Nat):Int):=by rw [hf,Int.natCast_mul,Int.toNat_of_nonneg (by omega)]
 have h1:1<=p.2.toNat*f:=Nat.mul_pos (by omega) (by omega)
 have h2:p.2.toNat<=p.2.toNat*f:=Nat.le_mul_of_pos_right _ hf1
 refine ⟨Pd (by rw [e0];omega),fun hq=>?_⟩
 have e:=Ae hq
 have hq':dA (p.2*o.2.2)<=60:=hq
 show O7 _ (dA (p.2*o.2.2)).toNat (cZ (.rep p.1 o.1 o.2.1))
 rw [e,e0] at hq' ⊢
 rw [cZ,Int.toNat_natCast]
 exact abA (rH hc) (h.2 (by omega)) (by omega) hf ho
theorem Pg {n:Nat}:∀ (f:Nat) {z:Pn} {l:List Sy} {k:Nat},uV z->bg l->Hu k z->∀ v l',kK n f z l=.ok (v,l')->∃ k',l'.length+k'<=l.length+k/\Hu k' v
 | 0,_,_,_,_,_,_,_,_,h=>by simp only [kK,bad] at h;cases h
 | f+1,z,l,k,hz,ha,hw,v,l',h=>by
  rw [kK] at h
  split at h
  ·rename_i hr
   split at h
   ·cases h
   ·rename_i m l1 e
    obtain ⟨d,ho,hd,fa,hf1,hf⟩:=yh hr e
    have ha1:=(oq (n:=n) ha _ _ e).2
    obtain ⟨k',h1,h2⟩:=Pg f (z:=I1 z m) (by show tC (.rep z.1 m.1 m.2.1);rw [tC];exact hz) ha1 (Pf hz hw hf hf1 ho) v l' h
    exact ⟨k',by omega,h2⟩
  ·cases h;exact ⟨k,Nat.le_refl _,hw⟩
theorem Gz {n:Nat} {a:List Sy->bn Pn} (ha:eU a) (hw:WA 1 a):∀ (f:Nat) (l:List Sy),bg l->abB 1 l (dW n a f l)
 | 0,_,_=>by intro v l' h;simp only [dW,bad] at h;cases h
 | f+1,l,hl=>by
  intro v l' h
  rw [dW] at h
  split at h
  ·rename_i q
   have h0:=eu (l:=l) (by omega)
   split at h
   ·cases h
   ·rename_i z l1 e
    obtain ⟨k,h1,h2⟩:=Gz ha hw f l.tail hl.tail _ _ e
    cases h
    exact ⟨k+1,by omega,Pe h2⟩
  ·split at h
   ·cases h
   ·rename_i z l1 e
    obtain ⟨k,h1,h2⟩:=hw l hl _ _ e
    obtain ⟨hz,hl1⟩:=ha l hl _ _ e
    obtain ⟨k',h3,h4⟩:=Pg _ hz hl1 h2 v l' h
    exact ⟨k',by omega,h4⟩
def XT (k:Nat) (z:List Pn):Prop:=(∀ p∈z,1<=p.2)/\(dH z<=60->WtL k (dH z).toNat (z.map fun p=>cZ p.1))
theorem Vl:∀ (z:List Pn) (y:Pn),dH (z++[y])=dH z+y.2
 | [],y=>by simp [dH]
 | p::z,y=>by rw [List.cons_append,dH,Vl z y,dH];omega
theorem pQ:∀ {z:List Pn},(∀ p∈z,1<=p.2)->(z.length:Int)<=dH z
 | [],_=>by simp [dH]
 | p::z,h=>by
  have:=h p (List.mem_cons_self ..)
  have:=pQ (z:=z) fun q hq=>h q (List.mem_cons_of_mem _ hq)
  rw [dH,List.length_cons];omega
theorem GA {k:Nat} {y:Pn} (h:Hu k y):XT k [y]:=by
 refine ⟨by simpa using h.1,fun hq=>?_⟩
 simp only [dH,Int.add_zero] at hq ⊢
 exact YZ (h.2 hq)
theorem Ce {k k':Nat} {z:List Pn} {y:Pn} (h:XT k z) (h':Hu k' y):XT (k+k') (z++[y]):=by
 have h0:=pQ h.1
 have h1:=h'.1
 refine ⟨fun p hp=>?_,fun hq=>?_⟩
 ·rcases List.mem_append.1 hp with hp | hp
  ·exact h.1 p hp
  ·have:p=y:=by simpa using hp
   subst this;exact h1
 ·rw [Vl] at hq ⊢
  rw [show (dH z+y.2).toNat=(dH z).toNat+y.2.toNat from by omega,List.map_append]
  exact Vg (h.2 (by omega)) (h'.2 (by omega))
theorem JN (z:List Pn):wo (z.map Prod.fst)=z.map fun p=>cZ p.1:=by rw [Bq,List.map_map];rfl
theorem Cf {z:List Pn} (h:∀ p∈z,uV p):∀ t∈z.map (fun p=>cZ p.1),Cn t:=fun t ht=>by
 obtain ⟨p,hp,rfl⟩:=List.mem_map.1 ht
 exact rH (h p hp)
theorem JO {k:Nat} {z:List Pn} (hz:∀ p∈z,uV p) (h:XT k z) (hne:z≠[]):Hu (if z.length=1 then k else k+1) (fI z):=by
 match z,hz,h,hne with
 | [],_,_,hne=>exact absurd rfl hne
 | [p],hz,h,_=>
  have:=h.1 p (List.mem_cons_self ..)
  show Hu k p
  refine ⟨this,fun hq=>?_⟩
  have h2:=h.2 (by simpa [dH] using hq)
  obtain ⟨u,L,q,g1,g2,g3,g4⟩:=h2
  simp only [dH,Int.add_zero,List.map_cons,List.map_nil,bu,Nat.add_zero] at g1 g2 g3
  exact ⟨u,L,q,g1,g2 _ (List.mem_cons_self ..),g3,g4⟩
 | p::p'::r,hz,h,_=>
  rw [if_neg (by simp)]
  have h0:=pQ h.1
  simp only [List.length_cons] at h0
  have e:fI (p::p'::r)=(.row ((p::p'::r).map Prod.fst),min (((p::p'::r).length:Int) - 1+dH (p::p'::r)) 61):=by simp [fI]
  rw [e]
  refine ⟨?_,fun hq=>?_⟩
  ·show 1<=min (((p::p'::r).length:Int) - 1+dH (p::p'::r)) 61
   simp only [List.length_cons];omega
  ·have hq':min (((p::p'::r).length:Int) - 1+dH (p::p'::r)) 61<=60:=hq
   show O7 _ (min (((p::p'::r).length:Int) - 1+dH (p::p'::r)) 61).toNat (cZ (.row ((p::p'::r).map Prod.fst)))
   simp only [List.length_cons] at hq'
   rw [show (min (((p::p'::r).length:Int) - 1+dH (p::p'::r)) 61).toNat=(dH (p::p'::r)).toNat+(r.length+1) from by simp only [List.length_cons];omega,cZ,JN]
   exact O8 (h.2 (by omega)) (by simp) (Gt (by simp)) fun m hm=>M8 (Cf hz) hm
theorem JQ {b:Bool} {k:Nat} {z:List Pn} (hz:∀ p∈z,uV p) (h:XT k z) (hne:z≠[]):Hu (if z.length=1 then k else k+1) (jg b z):=by
 match z,hz,h,hne with
 | [],_,_,hne=>exact absurd rfl hne
 | [p],hz,h,_=>
  have:=h.1 p (List.mem_cons_self ..)
  show Hu k p
  refine ⟨this,fun hq=>?_⟩
  have h2:=h.2 (by simpa [dH] using hq)
  obtain ⟨u,L,q,g1,g2,g3,g4⟩:=h2
  simp only [dH,Int.add_zero,List.map_cons,List.map_nil,bu,Nat.add_zero] at g1 g2 g3
  exact ⟨u,L,q,g1,g2 _ (List.mem_cons_self ..),g3,g4⟩
 | p::p'::r,hz,h,_=>
  rw [if_neg (by simp)]
  have h0:=pQ h.1
  simp only [List.length_cons] at h0
  have e:jg b (p::p'::r)=(.aZ b ((p::p'::r).map Prod.fst),min (((p::p'::r).length:Int) - 1+dH (p::p'::r)) 61):=rfl
  rw [e]
  refine ⟨?_,fun hq=>?_⟩
  ·show 1<=min (((p::p'::r).length:Int) - 1+dH (p::p'::r)) 61
   simp only [List.length_cons];omega
  ·have hq':min (((p::p'::r).length:Int) - 1+dH (p::p'::r)) 61<=60:=hq
   show O7 _ (min (((p::p'::r).length:Int) - 1+dH (p::p'::r)) 61).toNat (cZ (.aZ b ((p::p'::r).map Prod.fst)))
   simp only [List.length_cons] at hq'
   rw [show (min (((p::p'::r).length:Int) - 1+dH (p::p'::r)) 61).toNat=(dH (p::p'::r)).toNat+(r.length+1) from by simp only [List.length_cons];omega,cZ,JN]
   exact O8 (h.2 (by omega)) (by simp) (JG (Cf hz) (by simp)) fun m hm=>JH (Cf hz) hm
theorem Cg {n:Nat} {a:List Sy->bn Pn} (ha:eU a) (hw:WA 1 a):∀ (f:Nat) {z:List Pn} {l:List Sy} {k:Nat},bg l->XT k z->∀ v l',bL n a f z l=.ok (v,l')->∃ k',l'.length+k'+v.length<=l.length+k+z.length/\XT k' v/\z.length<=v.length
 | 0,_,_,_,_,_,_,_,h=>by simp only [bL,bad] at h;cases h
 | f+1,z,l,k,hl,hz,v,l',h=>by
  rw [bL] at h
  split at h
  ·cases h;exact ⟨k,Nat.le_refl _,hz,Nat.le_refl _⟩
  ·split at h
   ·cases h
   ·rename_i y l1 e
    obtain ⟨k1,h1,h2⟩:=Gz (n:=n) ha hw _ l hl _ _ e
    have hl1:=(jb (n:=n) ha (l.length+1) hl _ _ e).2
    obtain ⟨k',h3,h4,h5⟩:=Cg ha hw f hl1 (Ce hz h2) v l' h
    rw [List.length_append] at h3 h5
    simp only [List.length_cons,List.length_nil] at h3 h5
    exact ⟨k',by omega,h4,by omega⟩
theorem abC {n:Nat} {a:List Sy->bn Pn} (ha:eU a) (hw:WA 1 a):WA 0 (rowP n a):=by
 intro l hl v l' h
 unfold rowP at h
 split at h
 ·cases h
  refine ⟨0,Nat.le_refl _,by decide,fun _=>Ad (by decide) ?_ ?_⟩<;>simp [fI,cZ,wo,kI,bE,hF]
 ·split at h
  ·cases h
  ·rename_i y l1 e
   obtain ⟨k1,h1,h2⟩:=Gz (n:=n) ha hw _ l hl _ _ e
   obtain ⟨hy,hl1⟩:=jb (n:=n) ha (l.length+1) hl _ _ e
   have g:=mJ (n:=n) ha (l1.length+1) (xX hy) hl1
   cases e2:bL n a (l1.length+1) [y] l1 with
   | error x=>rw [e2] at h;cases h
   | ok r=>
    obtain ⟨v2,l2⟩:=r
    rw [e2] at h
    cases h
    obtain ⟨k',h3,h4,h5⟩:=Cg ha hw _ hl1 (GA h2) _ _ e2
    simp only [List.length_cons,List.length_nil] at h3 h5
    have hm:=JO (g _ _ e2).1 h4 (by rintro rfl;simp at h5)
    refine ⟨_,?_,hm⟩
    split<;>omega
theorem Ch {n:Nat} {a:List Sy->bn Pn} (ha:eU a) (hw:WA 0 a) (sg:Int) (hsg:0<=sg):∀ (f:Nat) {z:List Pn} {l:List Sy} {k:Nat},bg l->XT k z->∀ v l',bM n a sg f z l=.ok (v,l')->∃ k',l'.length+k'+v.length<=l.length+k+z.length/\XT k' v/\z.length<=v.length
 | 0,_,_,_,_,_,_,_,h=>by simp only [bM,bad] at h;cases h
 | f+1,z,l,k,hl,hz,v,l',h=>by
  rw [bM] at h
  split at h
  ·rename_i q
   have h0:=eu (l:=l) (by omega)
   split at h
   ·cases h
   ·rename_i y l1 e
    obtain ⟨k1,h1,h2⟩:=hw l.tail hl.tail _ _ e
    have hl1:=(ha l.tail hl.tail _ _ e).2
    obtain ⟨k',h3,h4,h5⟩:=Ch ha hw sg hsg f hl1 (Ce hz h2) v l' h
    rw [List.length_append] at h3 h5
    simp only [List.length_cons,List.length_nil] at h3 h5
    exact ⟨k',by omega,h4,by omega⟩
  ·cases h;exact ⟨k,Nat.le_refl _,hz,Nat.le_refl _⟩
theorem Vm {n:Nat} {a:List Sy->bn Pn} (ha:eU a) (hw:WA 0 a) (sg:Int) (hsg:0<=sg) (b:Bool):WA 0 (qU n a sg (jg b)):=by
 intro l hl v l' h
 unfold qU at h
 split at h
 ·cases h
 ·rename_i y l1 e
  obtain ⟨k1,h1,h2⟩:=hw l hl _ _ e
  obtain ⟨hy,hl1⟩:=ha l hl _ _ e
  have g:=mK (n:=n) ha sg (l1.length+1) (xX hy) hl1
  cases e2:bM n a sg (l1.length+1) [y] l1 with
  | error x=>rw [e2] at h;cases h
  | ok r=>
   obtain ⟨v2,l2⟩:=r
   rw [e2] at h
   cases h
   obtain ⟨k',h3,h4,h5⟩:=Ch ha hw sg hsg _ hl1 (GA h2) _ _ e2
   simp only [List.length_cons,List.length_nil] at h3 h5
   have hm:=JQ (b:=b) (g _ _ e2).1 h4 (by rintro rfl;simp at h5)
   refine ⟨_,?_,hm⟩
   split<;>omega
theorem EZ {n:Nat} {a:List Sy->bn Pn} (ha:eU a) (hw:WA 1 a):WA 0 (fJ n a):=
 Vm (tF ha) (Vm (good_row ha) (abC ha hw) 38 (by decide) true) 124 (by decide) false
theorem Ph {n:Nat}:∀ k:Nat,WA 1 (ek n k)
 | 0=>by
  intro l hl v l' h
  rw [ek] at h
  split at h
  ·simp only [bad] at h;cases h
  ·exact Gy v l' h
 | k+1=>by
  intro l hl v l' h
  rw [ek] at h
  split at h
  ·rename_i q
   have h0:=eu (l:=l) (by omega)
   unfold I5 at h
   split at h
   ·cases h
   ·rename_i z l1 e
    obtain ⟨k1,h1,h2⟩:=EZ (n:=n) (jY k) (Ph k) l.tail hl.tail _ _ e
    split at h
    ·rename_i q2
     have h3:=eu (l:=l1) (by omega)
     cases h
     exact ⟨k1,by omega,h2⟩
    ·simp only [bad] at h;cases h
  ·exact Gy v l' h
theorem Vn {s:ByteArray} {q:Pt} (h:bG s=.ok q):∃ u L,bE (cZ q)+3<=60*(3+u)/\hF false Option.none (cZ q)<=L+5/\L+3*u<=60:=by
 unfold bG at h
 split at h
 ·cases h
 ·rename_i hs
  unfold pG at h
  split at h
  ·cases h
  ·rename_i z l e
   obtain ⟨k,h1,h2⟩:=EZ (n:=s.size) (jY 8) (Ph 8) _ (kL s 0) _ _ e
   split at h
   ·split at h
    ·cases h
    ·rename_i hz
     cases h
     obtain ⟨u,L,q,g1,g2,g3,g4⟩:=h2.2 (by omega)
     have hlen:(ai s 0).length<=s.size - 0:=uE s _ _
     have aes:z.2.toNat<=60:=by omega
     have hq:q<=5:=by
      rcases Nat.lt_or_ge q 6 with hh | hh
      ·omega
      ·have:2 ^ 6<=2 ^ q:=Nat.pow_le_pow_right (by omega) hh
       omega
     refine ⟨u,L,Nat.le_trans g1 (Nat.mul_le_mul_right _ aes),by omega,by omega⟩
   ·cases h
theorem yj {s:ByteArray} {q:Pt} (h:bG s=.ok q) {L:List Int} (hL:L.length<=60):wT (uy (cZ q) (nN L))<=600000000000/\bE (cZ q)<=1380:=by
 obtain ⟨u,Lv,h1,h2,h3⟩:=Vn h
 have hu:u<=20:=by omega
 refine ⟨?_,by omega⟩
 have hb:=YV (t:=cZ q) (X:=nN L) (n:=1830) (h:=65 - 3*u) (z:=60*(3+u)) (M6 hL) (by omega) (by omega)
 refine Nat.le_trans hb ?_
 clear hb h1 h2 h3
 have:∀ u:Fin 21,1830*(((65 - 3*u.val)*(60*(3+u.val)))*125+(2*(60*(3+u.val))+1)*68)+1830*((2*((65 - 3*u.val)*(60*(3+u.val)))+(2*(60*(3+u.val))+1))*(5*(60*(3+u.val))+9))<=600000000000:=by decide
 exact this ⟨u,by omega⟩
def ado (B:List Int) (c d:Int):Prop:=∀ b∈B,b<=c↔b<=d
def bU (B:List Int) (s:af):Prop:=∀ c d,aF c=true->aF d=true->ado B c d->dw s c=dw s d
def fP (B:List Int):Tm->Prop
 | .set l=>bU B l
 | .eps=>True
 | .chain a b=>fP B a/\fP B b
 | .star a=>fP B a
 | .not a=>fP B a
 | .aZ _ a b=>fP B a/\fP B b
theorem bU.mono {B B':List Int} {s:af} (h:bU B s) (hb:∀ b∈B,b∈B'):bU B' s:=fun c d hc hd hs=>h c d hc hd fun b hb'=>hs b (hb b hb')
theorem gF (B:List Int):bU B []:=fun _ _ _ _ _=>rfl
theorem yl {B:List Int} {a b:af} (ha:Pos a) (hb:Pos b) (h1:bU B a) (h2:bU B b):bU B (qR a b):=fun c d hc hd hs=>by rw [og ha hb hc,og ha hb hd,h1 c d hc hd hs,h2 c d hc hd hs]
theorem RH {B:List Int} {a b:af} (ha:Pos a) (hb:Pos b) (h1:bU B a) (h2:bU B b):bU B (Iu a b):=fun c d hc hd hs=>by rw [vT ha hb hc,vT ha hb hd,h1 c d hc hd hs,h2 c d hc hd hs]
theorem tT {B:List Int} {a:af} (ha:Pos a) (h1:bU B a):bU B (fE a):=fun c d hc hd hs=>by rw [kE ha hc,kE ha hd,h1 c d hc hd hs]
theorem Vo {B:List Int} (k:Bool) {a b:af} (ha:Tidy a) (hb:Tidy b) (h1:bU B a) (h2:bU B b):bU B (gI k a b):=by
 cases k
 ·exact yl ha.pos hb.pos h1 h2
 ·exact RH ha.pos hb.pos h1 h2
theorem opS_tidy' (k:Bool) {a b:af} (ha:Tidy a) (hb:Tidy b):Tidy (gI k a b):=by
 cases k
 ·exact iY ha.pos hb.pos
 ·exact xN ha.pos hb.pos
theorem jQ {B:List Int} {k:Bool}:∀ {l:List af} {s:af},(∀ x∈l,Tidy x/\bU B x)->Tidy s->bU B s->Tidy (l.foldl (gI k) s)/\bU B (l.foldl (gI k) s)
 | [],_,_,h1,h2=>⟨h1,h2⟩
 | x::l,s,h,h1,h2=>by
  have hx:=h x (List.mem_cons_self ..)
  exact jQ (l:=l) (fun y hy=>h y (List.mem_cons_of_mem _ hy)) (opS_tidy' k h1 hx.1) (Vo k h1 hx.1 h2 hx.2)
theorem Y0 {B:List Int} {k:Bool}:∀ {t:Tm},fP B t->∀ m∈memT k t,fP B m:=by
 intro t
 induction t with
 | aZ k' a b _ ih=>
  intro h m hm
  rw [memT] at hm
  split at hm
  ·rcases List.mem_cons.1 hm with rfl | hm
   ·exact h.1
   ·exact ih h.2 m hm
  ·have:m=.aZ k' a b:=by simpa using hm
   subst this;exact h
 | _=>
  intro h m hm
  simp [memT] at hm
  subst hm;exact h
theorem JR {B:List Int} {k:Bool}:∀ {l:List Tm},(∀ m∈l,fP B m)->fP B (gW k l)
 | [],_=>gF B
 | [a],h=>h a (List.mem_cons_self ..)
 | a::b::l,h=>by
  rw [iQ k a (by simp)]
  exact ⟨h a (List.mem_cons_self ..),JR fun m hm=>h m (List.mem_cons_of_mem _ hm)⟩
theorem RI {B:List Int} {k:Bool} {l:List Tm} (hl:∀ t∈l,Cn t) (h:∀ t∈l,fP B t):fP B (aj k l):=by
 unfold aj qi
 split
 ·cases k<;>exact gF B
 split
 ·cases k<;>exact gF B
 ·refine JR fun m hm=>?_
  have hF:∀ m∈l.flatMap (memT k),fP B m:=fun m hm=>by
   obtain ⟨d,hd,hm⟩:=List.mem_flatMap.1 hm
   exact Y0 (h d hd) m hm
  have hok:=jJ (k:=k) hl
  rcases aP.1 (List.mem_filter.1 hm).1 with ⟨q,_⟩ | ⟨s,hs,rfl⟩
  ·exact hF m q
  ·cases hq:(l.flatMap (memT k)).filterMap aQ with
   | nil=>rw [hq] at hs;cases hs
   | cons a r=>
    rw [hq] at hs
    simp only [fG,Option.some.injEq] at hs
    subst hs
    have hall:∀ x∈a::r,Tidy x/\bU B x:=fun x hx=>⟨hok (.set x) (b_.1 (hq▸hx)),hF (.set x) (b_.1 (hq▸hx))⟩
    exact (jQ (fun x hx=>hall x (List.mem_cons_of_mem _ hx)) (hall a (List.mem_cons_self ..)).1 (hall a (List.mem_cons_self ..)).2).2
theorem JS {a b:Int}:bU [a,b+1] [(a,b)]:=by
 intro c d _ _ hs
 have h1:=hs a (by simp)
 have h2:=hs (b+1) (by simp)
 simp only [dw,List.any_cons,List.any_nil,Bool.or_false]
 rw [Bool.eq_iff_iff]
 simp only [Bool.and_eq_true,decide_eq_true_eq]
 omega
theorem M9 {B B':List Int} {x:Int×Int} {l:af} (h1:bU B [x]) (h2:bU B' l):bU (B++B') (x::l):=by
 intro c d hc hd hs
 have e1:=h1 c d hc hd fun b hb=>hs b (List.mem_append_left _ hb)
 have e2:=h2 c d hc hd fun b hb=>hs b (List.mem_append_right _ hb)
 simp only [dw,List.any_cons,List.any_nil,Bool.or_false] at e1 e2 ⊢
 rw [e1,e2]
def JU:af->List Int
 | []=>[]
 | x::l=>[x.1,x.2+1]++JU l
theorem E5:∀ l:af,(JU l).length=2*l.length
 | []=>rfl
 | x::l=>by rw [JU,List.length_append,E5 l];simp;omega
theorem Ci:∀ l:af,bU (JU l) l
 | []=>gF _
 | _::l=>M9 JS (Ci l)
def BS (k:Nat) (s:af):Prop:=∃ B:List Int,B.length<=8*k/\bU B s
theorem BS.cup {k k':Nat} {a b:af} (ha:Pos a) (hb:Pos b) (h:BS k a) (h':BS k' b):BS (k+k') (qR a b):=by
 obtain ⟨B,l1,h1⟩:=h
 obtain ⟨B',l2,h2⟩:=h'
 exact ⟨B++B',by rw [List.length_append];omega,yl ha hb (h1.mono fun b hb=>List.mem_append_left _ hb) (h2.mono fun b hb=>List.mem_append_right _ hb)⟩
theorem ym {s:af} (h:s.length<=4):BS 1 s:=⟨JU s,by rw [E5];omega,Ci s⟩
theorem Pj (l:List Sy):(jN l).length<=4:=by unfold jN;split<;>simp [zV,wy]
theorem Vp {n:Nat} {l l':List Sy} {c:Int} (h:eZ n l=.ok (c,l')):l'.length+1<=l.length:=by
 unfold eZ at h
 split at h
 ·rename_i q
  have:=eu (l:=l) (by omega)
  have:=u7 h
  omega
 ·split at h
  ·simp only [bad] at h;cases h
  ·rename_i q
   have:=eu (l:=l) (by omega)
   cases h;omega
theorem Y1 {n:Nat} {l l':List Sy} {s:af} (h:kJ n l=.ok (s,l')):l'.length+1<=l.length/\BS 1 s:=by
 unfold kJ at h
 split at h
 ·rename_i q
  have q2:hd l=92:=by simp only [isSet,decide_eq_true_eq] at q;exact q.1
  have:=eu (l:=l) (by omega)
  have:=cB l.tail
  cases h
  exact ⟨by omega,ym (Pj l)⟩
 ·split at h
  ·cases h
  ·rename_i a l1 e
   have h1:=Vp e
   split at h
   ·split at h
    ·cases h
    ·rename_i b l2 e2
     have h2:=yg e2
     have h3:=cB l1
     split at h
     ·simp only [bad] at h;cases h
     ·cases h;exact ⟨by omega,ym (by simp)⟩
   ·cases h;exact ⟨h1,ym (by simp)⟩
theorem qx {n:Nat}:∀ (f:Nat) {s s':af} {l l':List Sy} {k:Nat},bg l->Tidy s->BS k s->bP n f s l=.ok (s',l')->∃ k',l'.length+k'<=l.length+k/\BS k' s'
 | 0,_,_,_,_,_,_,_,_,h=>by simp only [bP,bad] at h;cases h
 | f+1,s,s',l,l',k,ha,ht,hs,h=>by
  rw [bP] at h
  split at h
  ·cases h
   exact ⟨k,by have:=cB l;omega,hs⟩
  ·split at h
   ·cases h
   ·rename_i p l1 e
    obtain ⟨h1,h2⟩:=Y1 e
    obtain ⟨hp,hl1⟩:=Eu (n:=n) ha _ _ e
    obtain ⟨k',h3,h4⟩:=qx f hl1 (iY ht.pos hp) (hs.cup ht.pos hp h2) h
    exact ⟨k',by omega,h4⟩
theorem Y2 {n:Nat} {s:af} {l l':List Sy} (ha:bg l) (h:fZ n l=.ok (s,l')):∃ k,l'.length+k<=l.length/\BS k s:=by
 have hlen:=JL h
 unfold fZ at h
 split at h
 ·unfold jO at h
  have t1:=cB l
  split at h
  ·unfold Br at h
   split at h
   ·cases h
   ·rename_i s1 l1 e
    obtain ⟨k,h1,h2⟩:=qx _ (s:=[]) (k:=0) ha.tail.tail trivial ⟨[],by simp,gF _⟩ e
    have hg:=(kM (n:=n) _ (s:=[]) trivial ha.tail.tail _ _ e).1
    cases h
    obtain ⟨B,b1,b2⟩:=h2
    exact ⟨k,by have:=cB l.tail;omega,B,b1,tT hg.pos b2⟩
  ·obtain ⟨k,h1,h2⟩:=qx _ (s:=[]) (k:=0) ha.tail trivial ⟨[],by simp,gF _⟩ h
   exact ⟨k,by omega,h2⟩
 split at h
 ·split at h
  ·cases h
   exact ⟨1,hlen,ym (Pj l)⟩
  ·unfold Rb at h
   split at h
   ·cases h
   ·cases h
    exact ⟨1,hlen,ym (by simp)⟩
 split at h
 ·cases h
  exact ⟨0,by omega,[],by simp,tT oh (gF _)⟩
 split at h
 ·simp only [bad] at h;cases h
 ·cases h
  exact ⟨1,hlen,ym (by simp)⟩
end Go.Proofs.YtfolanohokflkaaGreatDoor
