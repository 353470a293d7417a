import Derived.Test.YtfolanohokflkaaGreatDoorShelfG
import Derived.Test.YtfolanohokflkaaGreatDoorDec
namespace Go.Proofs.YtfolanohokflkaaGreatDoor
inductive Tm where
 | set (l:List (Int×Int))
 | eps
 | chain (a b:Tm)
 | star (a:Tm)
 | not (a:Tm)
 | aW (k:Bool) (a b:Tm)
deriving DecidableEq
abbrev aF:Tm:=.set []
abbrev whole:Tm:=.not (.set [])
open Tm (eps)
def I5 (d:Nat):UInt8:=if d<10 then UInt8.ofNat (48+d) else UInt8.ofNat (87+d)
def Gm:Nat->Nat->List UInt8->List UInt8
 | 0,_,acc=>acc
 | f+1,n,acc=>if n / 16=0 then I5 (n % 16)::acc else Gm f (n / 16) (I5 (n % 16)::acc)
def I6 (n:Nat):List UInt8:=Gm (n+1) n []
def nL:ah->List UInt8
 | []=>[]
 | x::r=>I6 x.1.toNat++(45::(I6 x.2.toNat++(44::nL r)))
def sign (k:Bool):UInt8:=if k=true then 38 else 124
def dw:Option Bool->Tm->List UInt8
 | _,.set l=>91::(nL l++[93])
 | _,.eps=>[101]
 | _,.chain a b=>46::(dw .none a++dw .none b)
 | _,.star a=>42::dw .none a
 | _,.not a=>126::dw .none a
 | m,.aW k a b=>if m=some k then dw .none a++dw (some k) b else sign k::(dw .none a++(dw (some k) b++[59]))
abbrev rend (t:Tm):List UInt8:=dw Option.none t
def OW:List UInt8->List UInt8->Bool
 | [],_=>false
 | _::_,[]=>true
 | x::r,y::s=>if x=y then OW r s else decide (y<x)
def TZ (a b:Tm):Bool:=OW (rend a) (rend b)
def bL:Tm->Bool
 | .chain _ _=>true
 | _=>false
def au:Tm->Tm->Tm
 | .chain x y,b=>if b=aF then aF else if b=eps then .chain x y else au x (au y b)
 | .set l,b=>if .set l=aF\/b=aF then aF else if b=eps then .set l else .chain (.set l) b
 | .eps,b=>b
 | .star a,b=>if b=aF then aF else if b=eps then .star a else .chain (.star a) b
 | .not a,b=>if b=aF then aF else if b=eps then .not a else .chain (.not a) b
 | .aW k x y,b=>if b=aF then aF else if b=eps then .aW k x y else .chain (.aW k x y) b
def gN (a:Tm):Tm:=if a=aF\/a=eps then eps else match a with
 | .star x=>.star x
 | x=>.star x
def jO:Tm->Tm
 | .not a=>a
 | a=>.not a
def memT (k:Bool):Tm->List Tm
 | .aW k' a b=>if k'=k then a::memT k b else [.aW k' a b]
 | t=>[t]
def gX (k:Bool):List Tm->Tm
 | []=>aF
 | [a]=>a
 | a::r=>.aW k a (gX k r)
def bG (k:Bool):Tm:=if k=true then whole else aF
def eT (k:Bool):Tm:=if k=true then aF else whole
def aP:Tm->Option ah
 | .set l=>some l
 | _=>Option.none
def gW (k:Bool) (a b:ah):ah:=if k=true then IL a b else q9 a b
def f_ (k:Bool):List ah->Option ah
 | []=>Option.none
 | s::r=>some (r.foldl (gW k) s)
def zT (f:List Tm):List Tm:=f.filter fun t=>(aP t).isNone
def outs (f:List Tm):List Tm:=(zT f).foldl (fun l t=>pJ TZ t l) []
def aV (k:Bool) (f:List Tm):List Tm:=match f_ k (f.filterMap aP) with
 | Option.none=>outs f
 | some s=>pJ TZ (.set s) (outs f)
def oV (k:Bool) (out:List Tm):Tm:=if eT k∈out then eT k else match out.filter (fun t=>decide (t≠bG k)) with
 | []=>bG k
 | l=>gX k l
def aj (k:Bool) (l:List Tm):Tm:=oV k (aV k (l.flatMap (memT k)))
def bZ:Tm->Bool
 | .set _=>false
 | .eps=>true
 | .chain a b=>bZ a&&bZ b
 | .star _=>true
 | .not a=>!bZ a
 | .aW k a b=>if k=true then bZ a&&bZ b else bZ a||bZ b
def uY:List Tm->Tm
 | t::_=>t
 | []=>aF
def qx (c:Int):Option Bool->Tm->List Tm
 | _,.set l=>[if dD l c=true then eps else aF]
 | _,.eps=>[aF]
 | _,.chain a b=>[if bZ a=true then aj false [au (uY (qx c .none a)) b,uY (qx c .none b)] else au (uY (qx c .none a)) b]
 | _,.star a=>[au (uY (qx c .none a)) (.star a)]
 | _,.not a=>[jO (uY (qx c .none a))]
 | m,.aW k a b=>if m=some k then uY (qx c .none a)::qx c (some k) b else [aj k (uY (qx c .none a)::qx c (some k) b)]
def aG (c:Int) (t:Tm):Tm:=uY (qx c Option.none t)
theorem I7 (c:Int) (k:Bool):∀ t:Tm,qx c (some k) t=(memT k t).map (aG c)
 | .set l=>by simp [qx,memT,aG,uY]
 | .eps=>by simp [qx,memT,aG,uY]
 | .chain a b=>by simp [qx,memT,aG,uY]
 | .star a=>by simp [qx,memT,aG,uY]
 | .not a=>by simp [qx,memT,aG,uY]
 | .aW k' a b=>by
  have ih:=I7 c k b
  rw [qx,memT]
  by_cases h:k'=k
  ·subst h
   rw [if_pos rfl,if_pos rfl,ih];rfl
  ·rw [if_neg h,if_neg (by simpa using fun e=>h e.symm)]
   simp [aG,qx,uY]
theorem il (c:Int) (l:ah):aG c (.set l)=if dD l c=true then eps else aF:=rfl
theorem A_ (c:Int):aG c eps=aF:=rfl
theorem fu (c:Int) (a b:Tm):aG c (.chain a b)=if bZ a=true then aj false [au (aG c a) b,aG c b] else au (aG c a) b:=rfl
theorem pU (c:Int) (a:Tm):aG c (.star a)=au (aG c a) (.star a):=rfl
theorem rR (c:Int) (a:Tm):aG c (.not a)=jO (aG c a):=rfl
theorem l9 (c:Int) (k:Bool) (a b:Tm):aG c (.aW k a b)=aj k ((memT k (.aW k a b)).map (aG c)):=by
 rw [memT,if_pos rfl,List.map_cons,<-I7]
 simp [aG,qx,uY]
theorem kr (a b:Tm):au a b=if a=aF\/b=aF then aF else if a=eps then b else if b=eps then a else match a with
  | .chain x y=>au x (au y b)
  | a=>.chain a b:=by
 cases a with
 | set l=>by_cases h:l=[]<;>simp [au,h]
 | eps=>by_cases h:b=aF<;>simp [au,h]
 | chain x y=>simp [au]
 | star a=>simp [au]
 | not a=>simp [au]
 | aW k x y=>simp [au]
theorem aQ (b:Tm):au aF b=aF:=by rw [kr];simp
theorem aH (a:Tm):au a aF=aF:=by rw [kr];simp
theorem bA (b:Tm):au eps b=b:=by cases b<;>rfl
theorem ai (a:Tm):au a eps=a:=by
 rw [kr]
 by_cases h:a=aF
 ·simp [h]
 ·by_cases h2:a=eps<;>simp [h,h2]
inductive Star (P:List Int->Prop):List Int->Prop where
 | nil:Star P []
 | more {u v:List Int}:P u->Star P v->Star P (u++v)
def wd:Tm->List Int->Prop
 | .set l,w=>∃ c,w=[c]/\dD l c=true
 | .eps,w=>w=[]
 | .chain a b,w=>∃ u v,w=u++v/\wd a u/\wd b v
 | .star a,w=>Star (wd a) w
 | .not a,w=>¬ wd a w
 | .aW k a b,w=>if k=true then wd a w/\wd b w else wd a w\/wd b w
def dU (w:List Int):Prop:=∀ c∈w,aD c=true
theorem dU.left {u v:List Int} (h:dU (u++v)):dU u:=fun c hc=>h c (List.mem_append_left _ hc)
theorem dU.right {u v:List Int} (h:dU (u++v)):dU v:=fun c hc=>h c (List.mem_append_right _ hc)
theorem jT {w:List Int}:¬ wd aF w:=by rintro ⟨c,_,h⟩;simp [dD] at h
theorem vZ {w:List Int}:wd whole w:=jT
theorem ku:∀ (a b:Tm) (w:List Int),wd (au a b) w↔∃ u v,w=u++v/\wd a u/\wd b v
 | a,b,w=>by
  rw [kr]
  by_cases h1:a=aF
  ·subst h1
   rw [if_pos (.inl rfl)]
   exact ⟨fun h=>absurd h jT,fun ⟨u,v,_,h,_⟩=>absurd h jT⟩
  by_cases h2:b=aF
  ·subst h2
   rw [if_pos (.inr rfl)]
   exact ⟨fun h=>absurd h jT,fun ⟨u,v,_,_,h⟩=>absurd h jT⟩
  rw [if_neg (by simp [h1,h2])]
  by_cases h3:a=eps
  ·subst h3
   rw [if_pos rfl]
   constructor
   ·intro h;exact ⟨[],w,rfl,rfl,h⟩
   ·rintro ⟨u,v,rfl,hu,hv⟩
    have hu':u=[]:=hu
    subst hu';exact hv
  rw [if_neg h3]
  by_cases h4:b=eps
  ·subst h4
   rw [if_pos rfl]
   constructor
   ·intro h;exact ⟨w,[],by simp,h,rfl⟩
   ·rintro ⟨u,v,rfl,hu,hv⟩
    have hv':v=[]:=hv
    subst hv';simpa using hu
  rw [if_neg h4]
  cases a with
  | chain x y=>
   show wd (au x (au y b)) w↔_
   rw [ku x]
   constructor
   ·rintro ⟨u,v,rfl,hu,hv⟩
    obtain ⟨u2,v2,rfl,hu2,hv2⟩:=(ku y b v).1 hv
    exact ⟨u++u2,v2,by simp,⟨u,u2,rfl,hu,hu2⟩,hv2⟩
   ·rintro ⟨u,v,rfl,⟨u1,u2,rfl,hu1,hu2⟩,hv⟩
    exact ⟨u1,u2++v,by simp,hu1,(ku y b _).2 ⟨u2,v,rfl,hu2,hv⟩⟩
  | set l=>exact Iff.rfl
  | eps=>exact absurd rfl h3
  | star a=>exact Iff.rfl
  | not a=>exact Iff.rfl
  | aW k x y=>exact Iff.rfl
 termination_by a=>a
theorem Star.append {P:List Int->Prop} {u v:List Int} (h:Star P u) (k:Star P v):Star P (u++v):=by
 induction h with
 | nil=>exact k
 | more hp _ ih=>rw [List.append_assoc];exact .more hp ih
theorem Star.flat {P:List Int->Prop} {w:List Int} (s:Star (Star P) w):Star P w:=by
 induction s with
 | nil=>exact .nil
 | more hp _ ih=>exact hp.append ih
theorem I8 (a:Tm) (w:List Int):wd (gN a) w↔Star (wd a) w:=by
 unfold gN
 by_cases h:a=aF\/a=eps
 ·rw [if_pos h]
  constructor
  ·intro hw
   have hw':w=[]:=hw
   subst hw';exact .nil
  ·intro hs
   show w=[]
   induction hs with
   | nil=>rfl
   | more hp _ ih=>
    rcases h with rfl | rfl
    ·exact absurd hp jT
    ·rw [show _=[] from hp,ih];rfl
 ·rw [if_neg h]
  cases a with
  | star x=>
   constructor
   ·intro hs;exact (show Star (wd (.star x)) w from by have:=Star.more (P:=wd (.star x)) (u:=w) (v:=[]) hs .nil;simpa using this)
   ·intro hs;exact hs.flat
  | set l=>exact Iff.rfl
  | eps=>exact Iff.rfl
  | chain x y=>exact Iff.rfl
  | not a=>exact Iff.rfl
  | aW k x y=>exact Iff.rfl
theorem Y_ (a:Tm) (w:List Int):wd (jO a) w↔¬ wd a w:=by
 cases a with
 | not x=>exact Classical.not_not.symm
 | set l=>exact Iff.rfl
 | eps=>exact Iff.rfl
 | chain x y=>exact Iff.rfl
 | star a=>exact Iff.rfl
 | aW k x y=>exact Iff.rfl
def oC (k:Bool) (l:List Tm) (w:List Int):Prop:=if k=true then ∀ t∈l,wd t w else ∃ t∈l,wd t w
theorem nM (k:Bool) (t:Tm) (l:List Tm) (w:List Int):oC k (t::l) w↔if k=true then wd t w/\oC k l w else wd t w\/oC k l w:=by
 cases k<;>simp [oC]
theorem Ba (k:Bool) (l m:List Tm) (w:List Int):oC k (l++m) w↔if k=true then oC k l w/\oC k m w else oC k l w\/oC k m w:=by
 cases k
 ·simp only [oC,Bool.false_eq_true,if_false,List.mem_append]
  constructor
  ·rintro ⟨t,h | h,ht⟩
   ·exact .inl ⟨t,h,ht⟩
   ·exact .inr ⟨t,h,ht⟩
  ·rintro (⟨t,h,ht⟩ | ⟨t,h,ht⟩)
   ·exact ⟨t,.inl h,ht⟩
   ·exact ⟨t,.inr h,ht⟩
 ·simp only [oC,if_true,List.mem_append]
  exact ⟨fun h=>⟨fun t ht=>h t (.inl ht),fun t ht=>h t (.inr ht)⟩,fun h t ht=>ht.elim (h.1 t) (h.2 t)⟩
theorem Gn {k:Bool} {l m:List Tm} (h:∀ t,t∈l↔t∈m) (w:List Int):oC k l w↔oC k m w:=by
 cases k<;>simp [oC,h]
theorem MP (k:Bool) (w:List Int):∀ t:Tm,wd t w↔oC k (memT k t) w
 | .set l=>by cases k<;>simp [memT,oC]
 | .eps=>by cases k<;>simp [memT,oC]
 | .chain a b=>by cases k<;>simp [memT,oC]
 | .star a=>by cases k<;>simp [memT,oC]
 | .not a=>by cases k<;>simp [memT,oC]
 | .aW k' a b=>by
  have ih:=MP k w b
  rw [memT]
  by_cases h:k'=k
  ·subst h
   rw [if_pos rfl,nM,<-ih]
   exact Iff.rfl
  ·rw [if_neg h]
   cases k<;>simp [oC]
theorem I9 (k:Bool) (w:List Int):∀ l:List Tm,l≠[]->(wd (gX k l) w↔oC k l w)
 | [],h=>absurd rfl h
 | [a],_=>by cases k<;>simp [gX,oC]
 | a::b::r,_=>by
  rw [show gX k (a::b::r)=.aW k a (gX k (b::r)) from rfl,nM,<-I9 k w (b::r) (by simp)]
  exact Iff.rfl
def gp:Tm->Prop
 | .set l=>Tidy l
 | .eps=>True
 | .chain a b=>gp a/\gp b
 | .star a=>gp a
 | .not a=>gp a
 | .aW _ a b=>gp a/\gp b
theorem UO:gp aF:=trivial
theorem v_:∀ (a b:Tm),gp a->gp b->gp (au a b)
 | a,b,ha,hb=>by
  rw [kr]
  split
  ·exact UO
  split
  ·exact hb
  split
  ·exact ha
  cases a with
  | chain x y=>exact v_ x _ ha.1 (v_ y b ha.2 hb)
  | set l=>exact ⟨ha,hb⟩
  | eps=>exact ⟨ha,hb⟩
  | star a=>exact ⟨ha,hb⟩
  | not a=>exact ⟨ha,hb⟩
  | aW k x y=>exact ⟨ha,hb⟩
 termination_by a=>a
theorem adl {a:Tm} (h:gp a):gp (jO a):=by cases a<;>exact h
theorem OX (k:Bool):∀ {t:Tm},gp t->∀ m∈memT k t,gp m
 | .set l,h=>by simpa [memT] using h
 | .eps,h=>by simpa [memT] using h
 | .chain a b,h=>by simpa [memT] using h
 | .star a,h=>by simpa [memT] using h
 | .not a,h=>by simpa [memT] using h
 | .aW k' a b,h=>by
  rw [memT]
  split
  ·intro m hm
   rcases List.mem_cons.1 hm with rfl | hm
   ·exact h.1
   ·exact OX k h.2 m hm
  ·intro m hm;simp at hm;subst hm;exact h
theorem UQ (k:Bool):∀ {l:List Tm},(∀ t∈l,gp t)->gp (gX k l)
 | [],_=>UO
 | [a],h=>h a (List.mem_cons_self ..)
 | a::b::r,h=>⟨h a (List.mem_cons_self ..),UQ k (l:=b::r) fun t ht=>h t (List.mem_cons_of_mem _ ht)⟩
theorem I_ (k:Bool) {a b:ah} (ha:Tidy a) (hb:Tidy b):Tidy (gW k a b):=by
 unfold gW;split
 ·exact xS ha.pos hb.pos
 ·exact jl ha.pos hb.pos
theorem Bc (k:Bool):∀ (r:List ah) (s:ah),Tidy s->(∀ x∈r,Tidy x)->Tidy (r.foldl (gW k) s)
 | [],_,h,_=>h
 | x::r,s,h,hr=>Bc k r (gW k s x) (I_ k h (hr x (List.mem_cons_self ..))) fun y hy=>hr y (List.mem_cons_of_mem _ hy)
theorem nN {k:Bool} {l:List ah} {s:ah} (h:f_ k l=some s) (hl:∀ x∈l,Tidy x):Tidy s:=by
 cases l with
 | nil=>simp [f_] at h
 | cons x r=>
  simp only [f_,Option.some.injEq] at h
  subst h
  exact Bc k r x (hl x (List.mem_cons_self ..)) fun y hy=>hl y (List.mem_cons_of_mem _ hy)
theorem uD {t:Tm}:∀ {l m:List Tm},t∈l.foldl (fun l t=>pJ TZ t l) m↔t∈l\/t∈m
 | [],m=>by simp
 | x::l,m=>by
  rw [List.foldl_cons,uD,tO]
  simp only [List.mem_cons]
  constructor
  ·rintro (h | h | h)<;>simp [h]
  ·rintro ((h | h) | h)<;>simp [h]
theorem rT {f:List Tm} {t:Tm}:t∈outs f↔t∈f/\aP t=Option.none:=by
 rw [outs,uD,zT];simp
theorem b_ {f:List Tm} {s:ah}:s∈f.filterMap aP↔Tm.set s∈f:=by
 rw [List.mem_filterMap]
 constructor
 ·rintro ⟨t,ht,h⟩
  cases t<;>simp [aP] at h
  subst h;exact ht
 ·intro h;exact ⟨_,h,rfl⟩
theorem aN {k:Bool} {f:List Tm} {t:Tm}:t∈aV k f↔(t∈f/\aP t=Option.none)\/∃ s,f_ k (f.filterMap aP)=some s/\t=.set s:=by
 unfold aV
 split
 ·rename_i h;simp [rT,h]
 ·rename_i s h
  rw [tO,rT,h]
  constructor
  ·rintro (rfl | h)
   ·exact .inr ⟨s,rfl,rfl⟩
   ·exact .inl h
  ·rintro (h | ⟨s',h1,rfl⟩)
   ·exact .inr h
   ·cases h1;exact .inl rfl
theorem adm {k:Bool} {l:List Tm} (h:∀ t∈l,gp t):gp (oV k l):=by
 unfold oV
 split
 ·cases k<;>trivial
 ·split
  ·cases k<;>trivial
  ·rename_i m hm _
   refine UQ k fun t ht=>h t ?_
   exact (List.mem_filter.1 ht).1
theorem OY {k:Bool} {l:List Tm} (h:∀ t∈l,gp t):gp (aj k l):=by
 have hf:∀ t∈l.flatMap (memT k),gp t:=by
  intro t ht
  obtain ⟨x,hx,hm⟩:=List.mem_flatMap.1 ht
  exact OX k (h x hx) t hm
 refine adm fun t ht=>?_
 rcases aN.1 ht with ⟨h1,_⟩ | ⟨s,h1,rfl⟩
 ·exact hf t h1
 ·exact nN h1 fun x hx=>hf _ (b_.1 hx)
theorem uE (c:Int):∀ {t:Tm},gp t->gp (aG c t)/\∀ k,∀ m∈memT k t,gp (aG c m)
 | .set l,_=>by
  have h0:gp (aG c (.set l)):=by rw [il];split<;>trivial
  exact ⟨h0,fun k m hm=>by simp [memT] at hm;subst hm;exact h0⟩
 | .eps,_=>⟨trivial,fun k m hm=>by simp [memT] at hm;subst hm;trivial⟩
 | .chain a b,h=>by
  have h0:gp (aG c (.chain a b)):=by
   have ha:=v_ _ b (uE c h.1).1 h.2
   rw [fu];split
   ·refine OY fun t ht=>?_
    simp at ht
    rcases ht with rfl | rfl
    ·exact ha
    ·exact (uE c h.2).1
   ·exact ha
  exact ⟨h0,fun k m hm=>by simp [memT] at hm;subst hm;exact h0⟩
 | .star a,h=>by
  have h0:gp (aG c (.star a)):=v_ _ _ (uE c (t:=a) h).1 h
  exact ⟨h0,fun k m hm=>by simp [memT] at hm;subst hm;exact h0⟩
 | .not a,h=>by
  have h0:gp (aG c (.not a)):=adl (uE c (t:=a) h).1
  exact ⟨h0,fun k m hm=>by simp [memT] at hm;subst hm;exact h0⟩
 | .aW k' a b,h=>by
  have ha:=(uE c h.1).1
  have hb:=(uE c h.2).2
  have hall:∀ m∈memT k' (.aW k' a b),gp (aG c m):=by
   intro m hm
   rw [memT,if_pos rfl] at hm
   rcases List.mem_cons.1 hm with rfl | hm
   ·exact ha
   ·exact hb k' m hm
  have h0:gp (aG c (.aW k' a b)):=by
   rw [l9]
   refine OY fun t ht=>?_
   obtain ⟨m,hm,rfl⟩:=List.mem_map.1 ht
   exact hall m hm
  refine ⟨h0,fun k m hm=>?_⟩
  by_cases e:k'=k
  ·subst e;exact hall m hm
  ·rw [memT,if_neg e] at hm
   simp at hm;subst hm;exact h0
theorem Rx (k:Bool) {a b:ah} (ha:Tidy a) (hb:Tidy b) {w:List Int} (hw:dU w) :
  wd (.set (gW k a b)) w↔if k=true then wd (.set a) w/\wd (.set b) w else wd (.set a) w\/wd (.set b) w:=by
 cases k
 ·simp only [gW,Bool.false_eq_true,if_false]
  constructor
  ·rintro ⟨c,rfl,h⟩
   rw [oF ha.pos hb.pos (hw c (by simp)),Bool.or_eq_true] at h
   exact h.imp (fun h=>⟨c,rfl,h⟩) (fun h=>⟨c,rfl,h⟩)
  ·rintro (⟨c,rfl,h⟩ | ⟨c,rfl,h⟩)
   ·exact ⟨c,rfl,by rw [oF ha.pos hb.pos (hw c (by simp)),h];rfl⟩
   ·exact ⟨c,rfl,by rw [oF ha.pos hb.pos (hw c (by simp)),h];simp⟩
 ·simp only [gW,if_true]
  constructor
  ·rintro ⟨c,rfl,h⟩
   rw [vW ha.pos hb.pos (hw c (by simp)),Bool.and_eq_true] at h
   exact ⟨⟨c,rfl,h.1⟩,⟨c,rfl,h.2⟩⟩
  ·rintro ⟨⟨c,rfl,h⟩,⟨d,hd,h2⟩⟩
   cases hd
   exact ⟨c,rfl,by rw [vW ha.pos hb.pos (hw c (by simp)),h,h2];rfl⟩
theorem Be (k:Bool) {w:List Int} (hw:dU w):∀ (r:List ah) (s:ah),Tidy s->(∀ x∈r,Tidy x) ->
  (wd (.set (r.foldl (gW k) s)) w↔oC k ((s::r).map Tm.set) w)
 | [],s,_,_=>by cases k<;>simp [oC]
 | x::r,s,h,hr=>by
  have hx:=hr x (List.mem_cons_self ..)
  rw [List.foldl_cons,Be k hw r _ (I_ k h hx) (fun y hy=>hr y (List.mem_cons_of_mem _ hy)),List.map_cons,nM,Rx k h hx hw,List.map_cons,List.map_cons,nM,nM]
  cases k
  ·simp [or_assoc]
  ·simp [and_assoc]
theorem Za {k:Bool} {l:List Tm} {w:List Int}:wd (oV k l) w↔oC k l w:=by
 unfold oV
 by_cases hz:eT k∈l
 ·rw [if_pos hz]
  cases k
  ·exact ⟨fun _=>⟨_,hz,vZ⟩,fun _=>vZ⟩
  ·exact ⟨fun h=>absurd h jT,fun h=>absurd (h _ hz) jT⟩
 ·rw [if_neg hz]
  have hfil:oC k (l.filter (fun t=>decide (t≠bG k))) w↔oC k l w:=by
   cases k
   ·simp only [oC,Bool.false_eq_true,if_false,List.mem_filter]
    constructor
    ·rintro ⟨t,⟨h,_⟩,ht⟩;exact ⟨t,h,ht⟩
    ·rintro ⟨t,h,ht⟩
     refine ⟨t,⟨h,?_⟩,ht⟩
     have:t≠bG false:=by rintro rfl;exact jT ht
     simpa using this
   ·simp only [oC,if_true,List.mem_filter]
    constructor
    ·intro h t ht
     by_cases e:t=bG true
     ·rw [e];exact vZ
     ·exact h t ⟨ht,by simpa using e⟩
    ·intro h t ht;exact h t ht.1
  split
  ·rename_i he
   rw [<-hfil,he]
   cases k
   ·exact ⟨fun h=>absurd h jT,fun ⟨_,h,_⟩=>by simp at h⟩
   ·exact ⟨fun _ t h=>by simp at h,fun _=>vZ⟩
  ·rename_i hne
   rw [<-hfil]
   exact I9 k w _ hne
theorem tQ {k:Bool} {l:List Tm} (hl:∀ t∈l,gp t) {w:List Int} (hw:dU w):wd (aj k l) w↔oC k l w:=by
 rw [aj,Za]
 have qW:oC k (l.flatMap (memT k)) w↔oC k l w:=by
  clear hl
  induction l with
  | nil=>simp
  | cons t l ih=>rw [List.flatMap_cons,Ba,nM,ih,<-MP]
 rw [<-qW]
 have hf:∀ t∈l.flatMap (memT k),gp t:=by
  intro t ht
  obtain ⟨x,hx,hm⟩:=List.mem_flatMap.1 ht
  exact OX k (hl x hx) t hm
 generalize hff:l.flatMap (memT k)=f at *
 clear qW hff
 cases hs:f_ k (f.filterMap aP) with
 | none=>
  have hno:f.filterMap aP=[]:=by
   cases h:f.filterMap aP with
   | nil=>rfl
   | cons s r=>rw [h] at hs;simp [f_] at hs
  refine Gn (fun t=>?_) w
  rw [aN,hs]
  simp only [reduceCtorEq,false_and,exists_false,or_false]
  refine ⟨fun h=>h.1,fun h=>⟨h,?_⟩⟩
  cases ht:aP t with
  | none=>rfl
  | some s=>
   cases t<;>simp [aP] at ht
   subst ht
   have:=b_.2 h
   rw [hno] at this
   simp at this
 | some s=>
  have adn:wd (.set s) w↔oC k ((f.filterMap aP).map Tm.set) w:=by
   cases hq:f.filterMap aP with
   | nil=>rw [hq] at hs;simp [f_] at hs
   | cons x r=>
    rw [hq] at hs
    simp only [f_,Option.some.injEq] at hs
    subst hs
    have hall:∀ y∈x::r,Tidy y:=fun y hy=>hf (.set y) (b_.1 (hq▸hy))
    exact Be k hw r x (hall x (List.mem_cons_self ..)) fun y hy=>hall y (List.mem_cons_of_mem _ hy)
  have e1:oC k (aV k f) w↔oC k (.set s::outs f) w:=by
   refine Gn (fun t=>?_) w
   rw [aN,hs,List.mem_cons,rT]
   constructor
   ·rintro (h | ⟨s',h1,rfl⟩)
    ·exact .inr h
    ·cases h1;exact .inl rfl
   ·rintro (rfl | h)
    ·exact .inr ⟨s,rfl,rfl⟩
    ·exact .inl h
  have e2:oC k f w↔oC k ((f.filterMap aP).map Tm.set++outs f) w:=by
   refine Gn (fun t=>?_) w
   rw [List.mem_append,rT,List.mem_map]
   constructor
   ·intro h
    cases ht:aP t with
    | none=>exact .inr ⟨h,rfl⟩
    | some s'=>
     cases t<;>simp [aP] at ht
     subst ht
     exact .inl ⟨_,b_.2 h,rfl⟩
   ·rintro (⟨x,hx,rfl⟩ | h)
    ·exact b_.1 hx
    ·exact h.1
  rw [e1,e2,nM,Ba,adn]
theorem ib:∀ t:Tm,bZ t=true↔wd t []
 | .set l=>by simp [bZ,wd]
 | .eps=>by simp [bZ,wd]
 | .chain a b=>by
  simp only [bZ,wd,Bool.and_eq_true,ib a,ib b]
  constructor
  ·rintro ⟨h1,h2⟩;exact ⟨[],[],rfl,h1,h2⟩
  ·rintro ⟨u,v,h,h1,h2⟩
   have:=List.append_eq_nil_iff.1 h.symm
   rw [this.1] at h1;rw [this.2] at h2;exact ⟨h1,h2⟩
 | .star a=>by simp only [bZ,wd,true_iff];exact .nil
 | .not a=>by simp [bZ,wd,<-ib a]
 | .aW k a b=>by
  cases k
  ·simp [bZ,wd,ib a,ib b]
  ·simp [bZ,wd,ib a,ib b]
theorem Ry {P:List Int->Prop} {c:Int} {w:List Int}:Star P (c::w)↔∃ u v,w=u++v/\P (c::u)/\Star P v:=by
 constructor
 ·intro h
  generalize he:c::w=z at h
  induction h with
  | nil=>cases he
  | more hp hs ih=>
   rename_i u v
   cases u with
   | nil=>exact ih (by simpa using he)
   | cons d u=>
    simp only [List.cons_append,List.cons.injEq] at he
    obtain ⟨rfl,rfl⟩:=he
    exact ⟨u,v,rfl,hp,hs⟩
 ·rintro ⟨u,v,rfl,hp,hs⟩
  exact Star.more (u:=c::u) hp hs
theorem qy {c:Int} (hc:aD c=true):∀ {t:Tm},gp t->∀ {w:List Int},dU w->((wd (aG c t) w↔wd t (c::w))/\∀ k,∀ m∈memT k t,(wd (aG c m) w↔wd m (c::w)))
 | .set l,_,w,_=>by
  have h0:wd (aG c (.set l)) w↔wd (.set l) (c::w):=by
   rw [il]
   by_cases h:dD l c=true
   ·rw [if_pos h]
    constructor
    ·intro hw'
     have hw'':w=[]:=hw'
     subst hw'';exact ⟨c,rfl,h⟩
    ·rintro ⟨d,hd,_⟩
     show w=[]
     simp at hd;exact hd.2
   ·rw [if_neg h]
    constructor
    ·intro h2;exact absurd h2 jT
    ·rintro ⟨d,hd,h2⟩
     simp at hd
     rw [hd.1] at h;exact absurd h2 h
  exact ⟨h0,fun k m hm=>by simp [memT] at hm;subst hm;exact h0⟩
 | .eps,_,w,_=>by
  have h0:wd (aG c eps) w↔wd eps (c::w):=⟨fun h=>absurd h jT,fun h=>by simp [wd] at h⟩
  exact ⟨h0,fun k m hm=>by simp [memT] at hm;subst hm;exact h0⟩
 | .chain a b,h,w,hw=>by
  have first:(∃ u v,w=u++v/\wd (aG c a) u/\wd b v)↔∃ u v,w=u++v/\wd a (c::u)/\wd b v:=by
   constructor
   ·rintro ⟨u,v,rfl,h1,h2⟩;exact ⟨u,v,rfl,(qy hc h.1 hw.left).1.1 h1,h2⟩
   ·rintro ⟨u,v,rfl,h1,h2⟩;exact ⟨u,v,rfl,(qy hc h.1 hw.left).1.2 h1,h2⟩
  have split':wd (.chain a b) (c::w)↔(∃ u v,w=u++v/\wd a (c::u)/\wd b v)\/(wd a []/\wd b (c::w)):=by
   constructor
   ·rintro ⟨u,v,he,h1,h2⟩
    cases u with
    | nil=>simp at he;subst he;exact .inr ⟨h1,h2⟩
    | cons d u=>
     simp only [List.cons_append,List.cons.injEq] at he
     obtain ⟨rfl,rfl⟩:=he
     exact .inl ⟨u,v,rfl,h1,h2⟩
   ·rintro (⟨u,v,rfl,h1,h2⟩ | ⟨h1,h2⟩)
    ·exact ⟨c::u,v,rfl,h1,h2⟩
    ·exact ⟨[],c::w,rfl,h1,h2⟩
  have h0:wd (aG c (.chain a b)) w↔wd (.chain a b) (c::w):=by
   rw [fu,split']
   by_cases hn:bZ a=true
   ·rw [if_pos hn,tQ (by
     intro t ht
     simp at ht
     rcases ht with rfl | rfl
     ·exact v_ _ b (uE c h.1).1 h.2
     ·exact (uE c h.2).1) hw]
    simp only [oC,Bool.false_eq_true,if_false,List.mem_cons,List.not_mem_nil,or_false,exists_eq_or_imp,exists_eq_left]
    rw [ku,first,(qy hc h.2 hw).1]
    simp [(ib a).1 hn]
   ·rw [if_neg hn,ku,first]
    have:¬ wd a []:=fun h=>hn ((ib a).2 h)
    simp [this]
  exact ⟨h0,fun k m hm=>by simp [memT] at hm;subst hm;exact h0⟩
 | .star a,h,w,hw=>by
  have h0:wd (aG c (.star a)) w↔wd (.star a) (c::w):=by
   rw [pU,ku]
   show _↔Star (wd a) (c::w)
   rw [Ry]
   constructor
   ·rintro ⟨u,v,rfl,h1,h2⟩;exact ⟨u,v,rfl,(qy hc (t:=a) h hw.left).1.1 h1,h2⟩
   ·rintro ⟨u,v,rfl,h1,h2⟩;exact ⟨u,v,rfl,(qy hc (t:=a) h hw.left).1.2 h1,h2⟩
  exact ⟨h0,fun k m hm=>by simp [memT] at hm;subst hm;exact h0⟩
 | .not a,h,w,hw=>by
  have h0:wd (aG c (.not a)) w↔wd (.not a) (c::w):=by
   rw [rR,Y_,(qy hc (t:=a) h hw).1];exact Iff.rfl
  exact ⟨h0,fun k m hm=>by simp [memT] at hm;subst hm;exact h0⟩
 | .aW k' a b,h,w,hw=>by
  have ha:=(qy hc h.1 hw).1
  have hb:=(qy hc h.2 hw).2
  have hall:∀ m∈memT k' (.aW k' a b),(wd (aG c m) w↔wd m (c::w)):=by
   intro m hm
   rw [memT,if_pos rfl] at hm
   rcases List.mem_cons.1 hm with rfl | hm
   ·exact ha
   ·exact hb k' m hm
  have h0:wd (aG c (.aW k' a b)) w↔wd (.aW k' a b) (c::w):=by
   rw [l9,tQ (by
    intro t ht
    obtain ⟨m,hm,rfl⟩:=List.mem_map.1 ht
    exact (uE c (t:=.aW k' a b) h).2 k' m hm) hw,MP k' (c::w) (.aW k' a b)]
   generalize memT k' (.aW k' a b)=l at hall
   cases k'
   ·simp only [oC,Bool.false_eq_true,if_false,List.mem_map]
    constructor
    ·rintro ⟨t,⟨m,hm,rfl⟩,ht⟩;exact ⟨m,hm,(hall m hm).1 ht⟩
    ·rintro ⟨m,hm,ht⟩;exact ⟨_,⟨m,hm,rfl⟩,(hall m hm).2 ht⟩
   ·simp only [oC,if_true,List.mem_map]
    constructor
    ·intro hh m hm;exact (hall m hm).1 (hh _ ⟨m,hm,rfl⟩)
    ·rintro hh t ⟨m,hm,rfl⟩;exact (hall m hm).2 (hh m hm)
  refine ⟨h0,fun k m hm=>?_⟩
  by_cases e:k'=k
  ·subst e;exact hall m hm
  ·rw [memT,if_neg e] at hm
   simp at hm;subst hm;exact h0
def aI (t:Tm) (w:List Int):Tm:=w.foldl (fun t c=>aG c t) t
theorem OZ:∀ (w:List Int) {t:Tm},gp t->dU w->(bZ (aI t w)=true↔wd t w)
 | [],t,_,_=>ib t
 | c::w,t,h,hw=>by
  have hc:=hw c (List.mem_cons_self ..)
  have hw':dU w:=fun d hd=>hw d (List.mem_cons_of_mem _ hd)
  show bZ (aI (aG c t) w)=true↔_
  rw [OZ w (uE c h).1 hw',(qy hc h hw').1]
end Go.Proofs.YtfolanohokflkaaGreatDoor
namespace Go.Proofs.YtfolanohokflkaaGreatDoor
open Tm (eps)
def UR (c:UInt8):Nat:=if 97<=c.toNat then c.toNat - 87 else c.toNat - 48
def rU (c:UInt8):Prop:=(48<=c.toNat/\c.toNat<=57)\/(97<=c.toNat/\c.toNat<=102)
theorem UT {d:Nat} (h:d<16):rU (I5 d):=by
 unfold rU I5
 split
 ·rw [UInt8.toNat_ofNat_of_lt' (by show _<256;omega)];omega
 ·rw [UInt8.toNat_ofNat_of_lt' (by show _<256;omega)];omega
theorem UU {d:Nat} (h:d<16):UR (I5 d)=d:=by
 unfold UR I5
 split
 ·rw [UInt8.toNat_ofNat_of_lt' (by show _<256;omega),if_neg (by omega)];omega
 ·rw [UInt8.toNat_ofNat_of_lt' (by show _<256;omega),if_pos (by omega)];omega
def Bg (v:Nat) (l:List UInt8):Nat:=l.foldl (fun n c=>16*n+UR c) v
theorem Ja:∀ (f n:Nat) (acc:List UInt8),n<f->Bg 0 (Gm f n acc)=Bg n acc
 | 0,_,_,h=>absurd h (Nat.not_lt_zero _)
 | f+1,n,acc,h=>by
  have hd:=UU (d:=n % 16) (Nat.mod_lt _ (by omega))
  rw [Gm]
  split
  ·show Bg (16*0+UR (I5 (n % 16))) acc=_
   rw [hd];congr 1;omega
  ·rw [Ja f (n / 16) _ (by omega)]
   show Bg (16*(n / 16)+UR (I5 (n % 16))) acc=_
   rw [hd];congr 1;omega
theorem Jb (n:Nat):Bg 0 (I6 n)=n:=Ja (n+1) n [] (Nat.lt_succ_self n)
theorem Jc:∀ (f n:Nat) (acc:List UInt8),(∀ c∈acc,rU c)->∀ c∈Gm f n acc,rU c
 | 0,_,_,h=>h
 | f+1,n,acc,h=>by
  have hd:=UT (d:=n % 16) (Nat.mod_lt _ (by omega))
  rw [Gm]
  split
  ·intro c hc
   rcases List.mem_cons.1 hc with rfl | hc
   ·exact hd
   ·exact h c hc
  ·refine Jc f _ _ fun c hc=>?_
   rcases List.mem_cons.1 hc with rfl | hc
   ·exact hd
   ·exact h c hc
theorem Bh (n:Nat):∀ c∈I6 n,rU c:=Jc _ _ _ (by simp)
theorem O0:∀ (f n:Nat) (acc:List UInt8),0<f\/acc≠[]->Gm f n acc≠[]
 | 0,_,acc,h=>by rw [Gm];exact h.resolve_left (by omega)
 | f+1,n,acc,_=>by
  rw [Gm]
  split
  ·simp
  ·exact O0 f _ _ (.inr (by simp))
theorem O1 (n:Nat):I6 n≠[]:=O0 _ _ _ (.inl (by omega))
theorem Jd {m n:Nat} (h:I6 m=I6 n):m=n:=by rw [<-Jb m,<-Jb n,h]
theorem Bi {d:UInt8}:∀ {u v x y:List UInt8},d∉u->d∉v->u++d::x=v++d::y->u=v/\x=y
 | [],[],x,y,_,_,h=>by simpa using h
 | [],b::v,x,y,_,hv,h=>by
  simp only [List.nil_append,List.cons_append,List.cons.injEq] at h
  exact absurd (by rw [h.1];exact List.mem_cons_self ..) hv
 | a::u,[],x,y,hu,_,h=>by
  simp only [List.nil_append,List.cons_append,List.cons.injEq] at h
  exact absurd (by rw [<-h.1];exact List.mem_cons_self ..) hu
 | a::u,b::v,x,y,hu,hv,h=>by
  simp only [List.cons_append,List.cons.injEq] at h
  obtain ⟨e1,e2⟩:=Bi (fun hm=>hu (List.mem_cons_of_mem _ hm)) (fun hm=>hv (List.mem_cons_of_mem _ hm)) h.2
  exact ⟨by rw [h.1,e1],e2⟩
theorem zU {d:UInt8} {n:Nat} (h:d=45\/d=44\/d=93\/d=59):d∉I6 n:=by
 intro hm
 have:=Bh n d hm
 unfold rU at this
 rcases h with rfl | rfl | rfl | rfl<;>simp at this
theorem Bj:∀ {a b:ah} {x y:List UInt8},Pos a->Pos b->nL a++93::x=nL b++93::y->a=b/\x=y
 | [],[],x,y,_,_,h=>by simpa [nL] using h
 | [],q::b,x,y,_,_,h=>by
  exfalso
  rw [nL,nL] at h
  obtain ⟨c,r,hc⟩:=List.exists_cons_of_ne_nil (O1 q.1.toNat)
  have h1:=Bh q.1.toNat c (by rw [hc];exact List.mem_cons_self ..)
  rw [hc] at h
  simp only [List.nil_append,List.cons_append,List.cons.injEq] at h
  rw [<-h.1] at h1
  unfold rU at h1;simp at h1
 | p::a,[],x,y,_,_,h=>by
  exfalso
  rw [nL,nL] at h
  obtain ⟨c,r,hc⟩:=List.exists_cons_of_ne_nil (O1 p.1.toNat)
  have h1:=Bh p.1.toNat c (by rw [hc];exact List.mem_cons_self ..)
  rw [hc] at h
  simp only [List.nil_append,List.cons_append,List.cons.injEq] at h
  rw [h.1] at h1
  unfold rU at h1;simp at h1
 | p::a,q::b,x,y,ha,hb,h=>by
  rw [nL,nL] at h
  simp only [List.append_assoc,List.cons_append] at h
  obtain ⟨e1,h⟩:=Bi (zU (.inl rfl)) (zU (.inl rfl)) h
  obtain ⟨e2,h⟩:=Bi (zU (.inr (.inl rfl))) (zU (.inr (.inl rfl))) h
  obtain ⟨e3,e4⟩:=Bj (fun z hz=>ha z (List.mem_cons_of_mem _ hz)) (fun z hz=>hb z (List.mem_cons_of_mem _ hz)) h
  have ep:=Jd e1
  have eq:=Jd e2
  have p0:=ha p (List.mem_cons_self ..)
  have q0:=hb q (List.mem_cons_self ..)
  refine ⟨?_,e4⟩
  rw [e3,show p=q from Prod.ext (by omega) (by omega)]
theorem UW {k k':Bool} (h:sign k=sign k'):k=k':=by cases k<;>cases k'<;>simp [sign] at h ⊢
theorem kM (k:Bool):sign k≠91/\sign k≠101/\sign k≠46/\sign k≠42/\sign k≠126/\sign k≠59:=by cases k<;>decide
theorem uZ:∀ (m:Option Bool) (t:Tm),∃ c r,dw m t=c::r/\c≠59
 | _,.set l=>⟨91,_,rfl,by decide⟩
 | _,.eps=>⟨101,_,rfl,by decide⟩
 | _,.chain a b=>⟨46,_,rfl,by decide⟩
 | _,.star a=>⟨42,_,rfl,by decide⟩
 | _,.not a=>⟨126,_,rfl,by decide⟩
 | m,.aW k a b=>by
  rw [dw]
  split
  ·obtain ⟨c,r,h,hc⟩:=uZ Option.none a
   exact ⟨c,r++dw (some k) b,by rw [h];rfl,hc⟩
  ·exact ⟨sign k,_,rfl,(kM k).2.2.2.2.2⟩
def dK (k:Bool):Tm->Bool
 | .aW k' _ _=>k' != k
 | _=>true
theorem xY {k:Bool}:∀ {t:Tm},dK k t=true->dw (some k) t=rend t
 | .set _,_=>rfl
 | .eps,_=>rfl
 | .chain _ _,_=>rfl
 | .star _,_=>rfl
 | .not _,_=>rfl
 | .aW k' a b,h=>by
  have:k'≠k:=by simpa [dK] using h
  rw [rend,dw,dw,if_neg (by simpa using fun e=>this e.symm),if_neg (by simp)]
theorem xZ (k:Bool) (a b:Tm):dw (some k) (.aW k a b)=rend a++dw (some k) b:=by rw [dw,if_pos rfl]
theorem nO (k:Bool) (a b:Tm):rend (.aW k a b)=sign k::(rend a++(dw (some k) b++[59])):=by rw [rend,dw,if_neg (by simp)]
theorem ja (k:Bool) (t:Tm):(∃ a b,t=.aW k a b)\/dK k t=true:=by
 cases t with
 | aW k' a b=>
  by_cases h:k'=k
  ·exact .inl ⟨a,b,by rw [h]⟩
  ·exact .inr (by simpa [dK] using h)
 | _=>exact .inr rfl
theorem iD {k:Bool} {a:Tm} (P:∀ (b:Tm) (x y:List UInt8),gp b->rend a++x=rend b++y->a=b/\x=y)
  (Q:∀ a1 a2,a=.aW k a1 a2->(∀ (b:Tm) (x y:List UInt8),gp b->rend a1++x=rend b++y->a1=b/\x=y)/\∀ (b:Tm) (x y:List UInt8),gp b->dw (some k) a2++59::x=dw (some k) b++59::y->a2=b/\x=y)
  (b:Tm) (x y:List UInt8) (hb:gp b) (h:dw (some k) a++59::x=dw (some k) b++59::y):a=b/\x=y:=by
 rcases ja k a with ⟨a1,a2,rfl⟩ | ha
 ·obtain ⟨P1,Q2⟩:=Q a1 a2 rfl
  rw [xZ,List.append_assoc] at h
  rcases ja k b with ⟨b1,b2,rfl⟩ | hb'
  ·rw [xZ,List.append_assoc] at h
   obtain ⟨e1,h⟩:=P1 b1 _ _ hb.1 h
   obtain ⟨e2,h⟩:=Q2 b2 _ _ hb.2 h
   exact ⟨by rw [e1,e2],h⟩
  ·rw [xY hb'] at h
   obtain ⟨e1,h⟩:=P1 b _ _ hb h
   obtain ⟨c,r,hc,hn⟩:=uZ (some k) a2
   rw [hc] at h
   simp only [List.cons_append,List.cons.injEq] at h
   exact absurd h.1 hn
 ·rw [xY ha] at h
  rcases ja k b with ⟨b1,b2,rfl⟩ | hb'
  ·rw [xZ,List.append_assoc] at h
   obtain ⟨e1,h⟩:=P b1 _ _ hb.1 h
   obtain ⟨c,r,hc,hn⟩:=uZ (some k) b2
   rw [hc] at h
   simp only [List.cons_append,List.cons.injEq] at h
   exact absurd h.1.symm hn
  ·rw [xY hb'] at h
   obtain ⟨e1,h⟩:=P b _ _ hb h
   simp only [List.cons.injEq,true_and] at h
   exact ⟨e1,h⟩
theorem lF:∀ (a:Tm),gp a->(∀ (b:Tm) (x y:List UInt8),gp b->rend a++x=rend b++y->a=b/\x=y) /\
  ∀ k,∀ (b:Tm) (x y:List UInt8),gp b->dw (some k) a++59::x=dw (some k) b++59::y->a=b/\x=y
 | .set l,ha=>by
  have P:∀ (b:Tm) (x y:List UInt8),gp b->rend (.set l)++x=rend b++y->.set l=b/\x=y:=by
   intro b x y hb h
   cases b with
   | set m=>
    simp only [rend,dw,List.cons_append,List.append_assoc,List.cons.injEq,true_and,List.nil_append] at h
    obtain ⟨e1,e2⟩:=Bj (fC.pos ha) (fC.pos hb) h
    exact ⟨by rw [e1],e2⟩
   | aW k c d=>rw [nO] at h;simp [rend,dw] at h;exact absurd h.1.symm (kM k).1
   | _=>simp [rend,dw] at h
  exact ⟨P,fun k=>iD P (fun _ _ h=>by cases h)⟩
 | .eps,ha=>by
  have P:∀ (b:Tm) (x y:List UInt8),gp b->rend eps++x=rend b++y->eps=b/\x=y:=by
   intro b x y hb h
   cases b with
   | eps=>simp [rend,dw] at h;exact ⟨rfl,h⟩
   | aW k c d=>rw [nO] at h;simp [rend,dw] at h;exact absurd h.1.symm (kM k).2.1
   | _=>simp [rend,dw] at h
  exact ⟨P,fun k=>iD P (fun _ _ h=>by cases h)⟩
 | .chain a1 a2,ha=>by
  have P1:=(lF a1 ha.1).1
  have P2:=(lF a2 ha.2).1
  have P:∀ (b:Tm) (x y:List UInt8),gp b->rend (.chain a1 a2)++x=rend b++y->.chain a1 a2=b/\x=y:=by
   intro b x y hb h
   cases b with
   | chain b1 b2=>
    simp only [rend,dw,List.cons_append,List.append_assoc,List.cons.injEq,true_and] at h
    obtain ⟨e1,h⟩:=P1 b1 _ _ hb.1 h
    obtain ⟨e2,h⟩:=P2 b2 _ _ hb.2 h
    exact ⟨by rw [e1,e2],h⟩
   | aW k c d=>rw [nO] at h;simp [rend,dw] at h;exact absurd h.1.symm (kM k).2.2.1
   | _=>simp [rend,dw] at h
  exact ⟨P,fun k=>iD P (fun _ _ h=>by cases h)⟩
 | .star a1,ha=>by
  have P1:=(lF a1 ha).1
  have P:∀ (b:Tm) (x y:List UInt8),gp b->rend (.star a1)++x=rend b++y->.star a1=b/\x=y:=by
   intro b x y hb h
   cases b with
   | star b1=>
    simp only [rend,dw,List.cons_append,List.cons.injEq,true_and] at h
    obtain ⟨e1,h⟩:=P1 b1 _ _ hb h
    exact ⟨by rw [e1],h⟩
   | aW k c d=>rw [nO] at h;simp [rend,dw] at h;exact absurd h.1.symm (kM k).2.2.2.1
   | _=>simp [rend,dw] at h
  exact ⟨P,fun k=>iD P (fun _ _ h=>by cases h)⟩
 | .not a1,ha=>by
  have P1:=(lF a1 ha).1
  have P:∀ (b:Tm) (x y:List UInt8),gp b->rend (.not a1)++x=rend b++y->.not a1=b/\x=y:=by
   intro b x y hb h
   cases b with
   | not b1=>
    simp only [rend,dw,List.cons_append,List.cons.injEq,true_and] at h
    obtain ⟨e1,h⟩:=P1 b1 _ _ hb h
    exact ⟨by rw [e1],h⟩
   | aW k c d=>rw [nO] at h;simp [rend,dw] at h;exact absurd h.1.symm (kM k).2.2.2.2.1
   | _=>simp [rend,dw] at h
  exact ⟨P,fun k=>iD P (fun _ _ h=>by cases h)⟩
 | .aW k a1 a2,ha=>by
  have P1:=(lF a1 ha.1).1
  have Q2:=(lF a2 ha.2).2
  have P:∀ (b:Tm) (x y:List UInt8),gp b->rend (.aW k a1 a2)++x=rend b++y->.aW k a1 a2=b/\x=y:=by
   intro b x y hb h
   rw [nO] at h
   cases b with
   | aW k' b1 b2=>
    rw [nO] at h
    simp only [List.cons_append,List.append_assoc,List.cons.injEq,List.nil_append] at h
    have hk:=UW h.1
    subst hk
    obtain ⟨e1,h⟩:=P1 b1 _ _ hb.1 h.2
    obtain ⟨e2,h⟩:=Q2 k b2 _ _ hb.2 h
    exact ⟨by rw [e1,e2],h⟩
   | set l=>simp [rend,dw] at h;exact absurd h.1 (kM k).1
   | eps=>simp [rend,dw] at h;exact absurd h.1 (kM k).2.1
   | chain c d=>simp [rend,dw] at h;exact absurd h.1 (kM k).2.2.1
   | star c=>simp [rend,dw] at h;exact absurd h.1 (kM k).2.2.2.1
   | not c=>simp [rend,dw] at h;exact absurd h.1 (kM k).2.2.2.2.1
  exact ⟨P,fun k'=>iD P (fun c d h=>by
   cases h
   exact ⟨P1,Q2 k⟩)⟩
theorem UX {a b:Tm} (ha:gp a) (hb:gp b) (h:rend a=rend b):a=b:=((lF a ha).1 b [] [] hb (by rw [h])).1
theorem Bo:∀ l:List UInt8,OW l l=false
 | []=>rfl
 | x::r=>by rw [OW,if_pos rfl,Bo r]
theorem Ew:∀ a b c:List UInt8,OW b a=true->OW c b=true->OW c a=true
 | _,[],_,h,_=>by simp [OW] at h
 | _,_::_,[],_,h=>by simp [OW] at h
 | [],_::_,_::_,_,_=>rfl
 | x::a,y::b,z::c,h1,h2=>by
  rw [OW] at h1 h2 ⊢
  by_cases e1:y=x
  ·by_cases e2:z=y
   ·rw [if_pos e1] at h1;rw [if_pos e2] at h2;rw [if_pos (e2.trans e1)]
    exact Ew a b c h1 h2
   ·rw [if_neg e2] at h2;rw [e1] at e2;rw [if_neg e2];rw [e1] at h2;exact h2
  ·rw [if_neg e1] at h1
   have h1':=of_decide_eq_true h1
   by_cases e2:z=y
   ·subst e2;rw [if_neg e1];exact h1
   ·rw [if_neg e2] at h2
    have h2':=of_decide_eq_true h2
    have:x<z:=UInt8.lt_trans h1' h2'
    rw [if_neg (by rintro rfl;exact absurd this (UInt8.lt_irrefl _))]
    exact decide_eq_true this
theorem Ey:∀ a b:List UInt8,OW a b=true\/OW b a=true\/a=b
 | [],[]=>.inr (.inr rfl)
 | [],_::_=>.inr (.inl rfl)
 | _::_,[]=>.inl rfl
 | x::a,y::b=>by
  rw [OW,OW]
  by_cases e:x=y
  ·subst e
   rw [if_pos rfl,if_pos rfl]
   rcases Ey a b with h | h | h
   ·exact .inl h
   ·exact .inr (.inl h)
   ·exact .inr (.inr (by rw [h]))
  ·rw [if_neg e,if_neg (fun h=>e h.symm)]
   rcases UInt8.lt_or_lt_of_ne e with h | h
   ·exact .inr (.inl (decide_eq_true h))
   ·exact .inl (decide_eq_true h)
theorem Bp (a:Tm):TZ a a=false:=Bo _
theorem Ez (a b c:Tm):TZ b a=true->TZ c b=true->TZ c a=true:=Ew _ _ _
theorem Rz {a b:Tm} (ha:gp a) (hb:gp b):TZ a b=true\/TZ b a=true\/a=b:=by
 rcases Ey (rend a) (rend b) with h | h | h
 ·exact .inl h
 ·exact .inr (.inl h)
 ·exact .inr (.inr (UX ha hb h))
def rV (l:List Tm):Prop:=l.Pairwise (fun a b=>TZ b a=true)
theorem Je {l m:List Tm} (hl:rV l) (hm:rV m) (h:∀ x,x∈l↔x∈m):l=m:=uS Bp Ez hl hm h
theorem wh {l:List Tm} (h:rV l) (hl:∀ t∈l,gp t) {c:Tm} (hc:gp c):rV (pJ TZ c l):=by
 unfold pJ
 split
 ·exact h
 ·rename_i hn
  refine rM Ez (fun x hx=>?_) h
  rcases Rz (hl x hx) hc with h1 | h1 | h1
  ·exact .inl h1
  ·exact .inr h1
  ·subst h1;exact absurd (by simpa using hx) hn
theorem yX:∀ {f l:List Tm},rV l->(∀ t∈l,gp t)->(∀ t∈f,gp t)->rV (f.foldl (fun l t=>pJ TZ t l) l)
 | [],_,h,_,_=>h
 | x::f,l,h,hl,hf=>by
  have hx:=hf x (List.mem_cons_self ..)
  refine yX (f:=f) (wh h hl hx) (fun t ht=>?_) (fun t ht=>hf t (List.mem_cons_of_mem _ ht))
  rcases tO.1 ht with rfl | ht
  ·exact hx
  ·exact hl t ht
theorem yY {f:List Tm} (hf:∀ t∈f,gp t):rV (outs f):=by
 refine yX (by simp [rV]) (by simp) fun t ht=>hf t ?_
 rw [zT] at ht
 exact (List.mem_filter.1 ht).1
theorem nP {k:Bool} {f:List Tm} (hf:∀ t∈f,gp t):(∀ t∈aV k f,gp t)/\rV (aV k f):=by
 have h1:∀ t∈aV k f,gp t:=by
  intro t ht
  rcases aN.1 ht with h | ⟨s,hs,rfl⟩
  ·exact hf t h.1
  ·exact nN hs fun x hx=>hf (.set x) (b_.1 hx)
 refine ⟨h1,?_⟩
 unfold aV at h1 ⊢
 split
 ·exact yY hf
 ·rename_i s hs
  exact wh (yY hf) (fun t ht=>hf t (rT.1 ht).1) (nN hs fun x hx=>hf (.set x) (b_.1 hx))
end Go.Proofs.YtfolanohokflkaaGreatDoor
namespace Go.Proofs.YtfolanohokflkaaGreatDoor
open Tm (eps)
def oW:Tm->Bool
 | .star _=>true
 | _=>false
def O3:Tm->Bool
 | .not _=>true
 | _=>false
def mI (l:List Tm):Prop:=(l.filterMap aP).length<=1
def u6:Option Bool->Tm->Prop
 | m,.set l=>Tidy l/\(m≠Option.none->l≠[])
 | _,.eps=>True
 | _,.chain a b=>u6 .none a/\u6 .none b/\bL a=false/\a≠aF/\a≠eps/\b≠aF/\b≠eps
 | _,.star a=>u6 .none a/\a≠aF/\a≠eps/\oW a=false
 | m,.not a=>u6 .none a/\O3 a=false/\(m≠Option.none->a≠aF)
 | _,.aW k a b=>u6 .none a/\dK k a=true/\a≠aF/\a≠whole/\u6 (some k) b/\rV (memT k (.aW k a b))/\mI (memT k (.aW k a b))
abbrev Cn (t:Tm):Prop:=u6 Option.none t
theorem u6.any {m:Option Bool}:∀ {t:Tm},u6 m t->Cn t
 | .set _,h=>⟨h.1,fun e=>absurd rfl e⟩
 | .eps,_=>trivial
 | .chain _ _,h=>h
 | .star _,h=>h
 | .not _,h=>⟨h.1,h.2.1,fun e=>absurd rfl e⟩
 | .aW _ _ _,h=>h
theorem u6.ok:∀ {m:Option Bool} {t:Tm},u6 m t->gp t
 | _,.set _,h=>h.1
 | _,.eps,_=>trivial
 | _,.chain _ _,h=>⟨u6.ok h.1,u6.ok h.2.1⟩
 | _,.star a,h=>u6.ok (t:=a) h.1
 | _,.not a,h=>u6.ok (t:=a) h.1
 | _,.aW _ _ _,h=>⟨u6.ok h.1,u6.ok h.2.2.2.2.1⟩
def UY (k:Bool) (m:Tm):Prop:=Cn m/\dK k m=true/\m≠aF/\m≠whole
theorem u6.void {k:Bool}:∀ {t:Tm},u6 (some k) t->t≠aF/\t≠whole
 | .set l,h=>⟨by intro e;cases e;exact h.2 (by simp) rfl,by simp⟩
 | .eps,_=>⟨by simp,by simp⟩
 | .chain _ _,_=>⟨by simp,by simp⟩
 | .star _,_=>⟨by simp,by simp⟩
 | .not a,h=>⟨by simp,by intro e;cases e;exact h.2.2 (by simp) rfl⟩
 | .aW _ _ _,_=>⟨by simp,by simp⟩
theorem u6.rest {k:Bool} {t:Tm} (h:Cn t) (h1:t≠aF) (h2:t≠whole):u6 (some k) t:=by
 cases t with
 | set l=>exact ⟨h.1,fun _ e=>h1 (by rw [e])⟩
 | eps=>trivial
 | chain a b=>exact h
 | star a=>exact h
 | not a=>exact ⟨h.1,h.2.1,fun _ e=>h2 (by rw [e])⟩
 | aW k a b=>exact h
theorem bu {k:Bool} {t:Tm} (h:dK k t=true):memT k t=[t]:=by
 cases t with
 | aW k' a b=>
  have:k'≠k:=by simpa [dK] using h
  rw [memT,if_neg this]
 | _=>rfl
theorem iq (k:Bool) (a b:Tm):memT k (.aW k a b)=a::memT k b:=by rw [memT,if_pos rfl]
theorem u6.members {k:Bool}:∀ {t:Tm},u6 (some k) t->∀ m∈memT k t,UY k m
 | t,h=>by
  rcases ja k t with ⟨a,b,rfl⟩ | hn
  ·rw [iq]
   intro m hm
   rcases List.mem_cons.1 hm with rfl | hm
   ·exact ⟨h.1,h.2.1,h.2.2.1,h.2.2.2.1⟩
   ·exact u6.members (t:=b) h.2.2.2.2.1 m hm
  ·rw [bu hn]
   intro m hm
   simp at hm;subst hm
   exact ⟨h.any,hn,h.void.1,h.void.2⟩
 termination_by t=>t
theorem Cn.members {k:Bool} {t:Tm} (h:Cn t):∀ m∈memT k t,Cn m/\dK k m=true:=by
 rcases ja k t with ⟨a,b,rfl⟩ | hn
 ·intro m hm
  have:=u6.members (k:=k) (t:=.aW k a b) h m hm
  exact ⟨this.1,this.2.1⟩
 ·rw [bu hn]
  intro m hm
  simp at hm;subst hm
  exact ⟨h,hn⟩
theorem jb (k:Bool) (a:Tm) {l:List Tm} (h:l≠[]):gX k (a::l)=.aW k a (gX k l):=by
 cases l with
 | nil=>exact absurd rfl h
 | cons b r=>rfl
theorem nQ (k:Bool):∀ {l:List Tm},l≠[]->(∀ m∈l,dK k m=true)->memT k (gX k l)=l
 | [],h,_=>absurd rfl h
 | [a],_,hm=>bu (hm a (List.mem_cons_self ..))
 | a::b::r,_,hm=>by
  rw [jb k a (by simp),iq,nQ k (l:=b::r) (by simp) fun m h=>hm m (List.mem_cons_of_mem _ h)]
theorem wo (k:Bool) (t:Tm):memT k t≠[]:=by
 cases t with
 | aW k' a b=>rw [memT];split<;>simp
 | _=>simp [memT]
theorem Bq (k:Bool):∀ t:Tm,gX k (memT k t)=t
 | t=>by
  rcases ja k t with ⟨a,b,rfl⟩ | hn
  ·rw [iq,jb k a (wo k b),Bq k b]
  ·rw [bu hn];rfl
 termination_by t=>t
theorem Jf {a:Tm} {l:List Tm} (h:mI (a::l)):mI l:=by
 unfold mI at *
 rw [List.filterMap_cons] at h
 split at h
 ·exact h
 ·rw [List.length_cons] at h;omega
theorem O4 {k:Bool}:∀ {l:List Tm},l≠[]->(∀ m∈l,UY k m)->rV l->mI l->u6 (some k) (gX k l)
 | [],h,_,_,_=>absurd rfl h
 | [a],_,hm,_,_=>by
  have:=hm a (List.mem_cons_self ..)
  exact u6.rest this.1 this.2.2.1 this.2.2.2
 | a::b::r,_,hm,hs,ho=>by
  have ha:=hm a (List.mem_cons_self ..)
  have hm':∀ m∈b::r,UY k m:=fun m h=>hm m (List.mem_cons_of_mem _ h)
  have ih:=O4 (l:=b::r) (by simp) hm' (List.pairwise_cons.1 hs).2 (Jf ho)
  have e:=nQ k (l:=a::b::r) (by simp) fun m h=>(hm m h).2.1
  rw [jb k a (by simp)] at e ⊢
  exact ⟨ha.1,ha.2.1,ha.2.2.1,ha.2.2.2,ih,by rw [e];exact hs,by rw [e];exact ho⟩
theorem MQ (k:Bool):Cn (bG k):=by
 cases k
 ·exact ⟨trivial,fun e=>absurd rfl e⟩
 ·exact ⟨⟨trivial,fun e=>absurd rfl e⟩,rfl,fun e=>absurd rfl e⟩
theorem abG (k:Bool):Cn (eT k):=by
 cases k
 ·exact ⟨⟨trivial,fun e=>absurd rfl e⟩,rfl,fun e=>absurd rfl e⟩
 ·exact ⟨trivial,fun e=>absurd rfl e⟩
theorem MR {l:List Tm} (hn:l.Nodup) (h:∀ s s',Tm.set s∈l->Tm.set s'∈l->s=s'):mI l:=by
 unfold mI
 induction l with
 | nil=>simp
 | cons a l ih=>
  have hn':=List.nodup_cons.1 hn
  have ih':=ih hn'.2 fun s s' h1 h2=>h s s' (List.mem_cons_of_mem _ h1) (List.mem_cons_of_mem _ h2)
  rw [List.filterMap_cons]
  cases hs:aP a with
  | none=>exact ih'
  | some s=>
   have ea:a=.set s:=by cases a<;>simp [aP] at hs;rw [hs]
   have:l.filterMap aP=[]:=by
    cases hq:l.filterMap aP with
    | nil=>rfl
    | cons s' r=>
     have h2:Tm.set s'∈l:=b_.1 (by rw [hq];exact List.mem_cons_self ..)
     have e:=h s s' (by rw [ea];exact List.mem_cons_self ..) (List.mem_cons_of_mem _ h2)
     subst e
     rw [ea] at hn'
     exact absurd h2 hn'.1
   simp [this]
theorem x8 {l:List Tm} (h:rV l):l.Nodup:=h.imp fun {a b} h e=>by
 subst e;rw [Bp] at h;exact absurd h (by simp)
theorem zV {l:List Tm} (h:rV l) (p:Tm->Bool):rV (l.filter p):=h.filter p
theorem l_ {t:Tm} {s:ah} (h:aP t=some s):t=.set s:=by cases t<;>simp [aP] at h;rw [h]
theorem Gp {k:Bool} {f:List Tm} {s s':ah} (h:Tm.set s∈aV k f) (h':Tm.set s'∈aV k f):s=s':=by
 rcases aN.1 h with ⟨_,h1⟩ | ⟨x,hx,e⟩
 ·simp [aP] at h1
 ·rcases aN.1 h' with ⟨_,h1⟩ | ⟨y,hy,e'⟩
  ·simp [aP] at h1
  ·rw [hx] at hy;cases hy;cases e;cases e';rfl
theorem abH {k:Bool} {l:List Tm} (hm:∀ m∈l,Cn m/\dK k m=true) (hs:rV l) (ho:∀ s s',Tm.set s∈l->Tm.set s'∈l->s=s'):Cn (oV k l):=by
 unfold oV
 split
 ·exact abG k
 rename_i hz
 split
 ·exact MQ k
 ·rename_i hne
  refine (O4 hne (fun m h=>?_) (zV hs _) (MR (x8 (zV hs _)) fun s s' h h'=>ho s s' (List.mem_filter.1 h).1 (List.mem_filter.1 h').1)).any
  have h':=List.mem_filter.1 h
  have hu:m≠bG k:=by simpa using h'.2
  have hzz:m≠eT k:=by rintro rfl;exact hz h'.1
  refine ⟨(hm m h'.1).1,(hm m h'.1).2,?_,?_⟩
  ·cases k
   ·exact hu
   ·exact hzz
  ·cases k
   ·exact hzz
   ·exact hu
theorem kN {k:Bool} {l:List Tm} (h:∀ t∈l,Cn t):Cn (aj k l):=by
 have hf:∀ m∈l.flatMap (memT k),Cn m/\dK k m=true:=by
  intro m hm
  obtain ⟨x,hx,hm⟩:=List.mem_flatMap.1 hm
  exact (h x hx).members m hm
 have hok:∀ m∈l.flatMap (memT k),gp m:=fun m hm=>(hf m hm).1.ok
 refine abH (fun m hm=>?_) (nP hok).2 (fun s s'=>Gp)
 rcases aN.1 hm with ⟨h1,_⟩ | ⟨s,hs,rfl⟩
 ·exact hf m h1
 ·exact ⟨⟨nN hs fun x hx=>(hf (.set x) (b_.1 hx)).1.1,fun e=>absurd rfl e⟩,rfl⟩
theorem fD:∀ (a b:Tm),Cn a->Cn b->Cn (au a b)
 | a,b,ha,hb=>by
  rw [kr]
  split
  ·exact ⟨trivial,fun e=>absurd rfl e⟩
  rename_i h1
  split
  ·exact hb
  rename_i h2
  split
  ·exact ha
  rename_i h3
  have hv:a≠aF/\b≠aF:=⟨fun e=>h1 (.inl e),fun e=>h1 (.inr e)⟩
  cases a with
  | chain x y=>exact fD x _ ha.1 (fD y b ha.2.1 hb)
  | set l=>exact ⟨ha,hb,rfl,hv.1,h2,hv.2,h3⟩
  | eps=>exact absurd rfl h2
  | star a=>exact ⟨ha,hb,rfl,hv.1,h2,hv.2,h3⟩
  | not a=>exact ⟨ha,hb,rfl,hv.1,h2,hv.2,h3⟩
  | aW k x y=>exact ⟨ha,hb,rfl,hv.1,h2,hv.2,h3⟩
 termination_by a=>a
theorem O5 {a:Tm} (h:Cn a):Cn (gN a):=by
 unfold gN
 split
 ·trivial
 ·rename_i h1
  have h2:a≠aF/\a≠eps:=⟨fun e=>h1 (.inl e),fun e=>h1 (.inr e)⟩
  cases a with
  | star x=>exact h
  | set l=>exact ⟨h,h2.1,h2.2,rfl⟩
  | eps=>exact absurd rfl h2.2
  | chain x y=>exact ⟨h,h2.1,h2.2,rfl⟩
  | not x=>exact ⟨h,h2.1,h2.2,rfl⟩
  | aW k x y=>exact ⟨h,h2.1,h2.2,rfl⟩
theorem UZ {a:Tm} (h:Cn a):Cn (jO a):=by
 cases a with
 | not x=>exact h.1
 | set l=>exact ⟨h,rfl,fun e=>absurd rfl e⟩
 | eps=>exact ⟨h,rfl,fun e=>absurd rfl e⟩
 | chain x y=>exact ⟨h,rfl,fun e=>absurd rfl e⟩
 | star x=>exact ⟨h,rfl,fun e=>absurd rfl e⟩
 | aW k x y=>exact ⟨h,rfl,fun e=>absurd rfl e⟩
theorem zW:Cn aF:=MQ false
theorem abI:Cn eps:=trivial
theorem gu (c:Int):∀ {m:Option Bool} {t:Tm},u6 m t->Cn (aG c t)/\∀ k,m=some k->∀ x∈memT k t,Cn (aG c x)
 | m,.set l,h=>by
  have h0:Cn (aG c (.set l)):=by
   rw [il];split
   ·trivial
   ·exact zW
  exact ⟨h0,fun k _ x hx=>by simp [memT] at hx;subst hx;exact h0⟩
 | m,.eps,_=>⟨zW,fun k _ x hx=>by simp [memT] at hx;subst hx;exact zW⟩
 | m,.chain a b,h=>by
  have ha:=fD _ b (gu c h.1).1 h.2.1
  have hb:=(gu c h.2.1).1
  have h0:Cn (aG c (.chain a b)):=by
   rw [fu];split
   ·refine kN fun t ht=>?_
    simp at ht
    rcases ht with rfl | rfl
    ·exact ha
    ·exact hb
   ·exact ha
  exact ⟨h0,fun k _ x hx=>by simp [memT] at hx;subst hx;exact h0⟩
 | m,.star a,h=>by
  have h0:Cn (aG c (.star a)):=fD _ _ (gu c (t:=a) h.1).1 h
  exact ⟨h0,fun k _ x hx=>by simp [memT] at hx;subst hx;exact h0⟩
 | m,.not a,h=>by
  have h0:Cn (aG c (.not a)):=UZ (gu c (t:=a) h.1).1
  exact ⟨h0,fun k _ x hx=>by simp [memT] at hx;subst hx;exact h0⟩
 | m,.aW k' a b,h=>by
  have ha:=(gu c h.1).1
  have hb:=(gu c h.2.2.2.2.1).2
  have hall:∀ x∈memT k' (.aW k' a b),Cn (aG c x):=by
   intro x hx
   rw [iq] at hx
   rcases List.mem_cons.1 hx with rfl | hx
   ·exact ha
   ·exact hb k' rfl x hx
  have h0:Cn (aG c (.aW k' a b)):=by
   rw [l9]
   refine kN fun t ht=>?_
   obtain ⟨x,hx,rfl⟩:=List.mem_map.1 ht
   exact hall x hx
  refine ⟨h0,fun k _ x hx=>?_⟩
  by_cases e:k'=k
  ·subst e;exact hall x hx
  ·rw [memT,if_neg e] at hx
   simp at hx;subst hx;exact h0
theorem gm:∀ (w:List Int) {t:Tm},Cn t->Cn (aI t w)
 | [],_,h=>h
 | c::w,t,h=>gm w (t:=aG c t) (gu c h).1
theorem RA {k:Bool} {l:List Tm} (hne:l≠[]) (h1:aF∉l) (h2:whole∉l):oV k l=gX k l:=by
 have hz:eT k∉l:=by cases k<;>assumption
 have hu:bG k∉l:=by cases k<;>assumption
 unfold oV
 rw [if_neg hz,List.filter_eq_self.2 (fun t ht=>by
  have:t≠bG k:=by rintro rfl;exact hu ht
  simpa using this)]
 cases l with
 | nil=>exact absurd rfl hne
 | cons a r=>rfl
theorem wu {k:Bool} {l:List Tm} (hok:∀ t∈l,gp t) (hs:rV l) (ho:mI l):aV k l=l:=by
 refine Je (nP hok).2 hs fun t=>?_
 rw [aN]
 cases hq:l.filterMap aP with
 | nil=>
  simp only [f_,reduceCtorEq,false_and,exists_false,or_false]
  refine ⟨fun h=>h.1,fun h=>⟨h,?_⟩⟩
  cases hst:aP t with
  | none=>rfl
  | some s=>
   rw [l_ hst] at h
   have:=b_.2 h
   rw [hq] at this;simp at this
 | cons s r=>
  have hr:r=[]:=by
   unfold mI at ho;rw [hq] at ho;simp at ho;exact ho
  subst hr
  simp only [f_,List.foldl_nil,Option.some.injEq,exists_eq_left']
  have hmem:Tm.set s∈l:=b_.1 (by rw [hq];exact List.mem_cons_self ..)
  constructor
  ·rintro (h | rfl)
   ·exact h.1
   ·exact hmem
  ·intro h
   cases hst:aP t with
   | none=>exact .inl ⟨h,rfl⟩
   | some s'=>
    have e:=l_ hst
    rw [e] at h
    have:=b_.2 h
    rw [hq] at this
    simp at this
    subst this
    exact .inr e
theorem group_one' {k:Bool} {t:Tm} (h:Cn t):aj k [t]=t:=by
 rw [aj,List.flatMap_cons,List.flatMap_nil,List.append_nil]
 rcases ja k t with ⟨a,b,rfl⟩ | hn
 ·have hm:=u6.members (k:=k) (t:=.aW k a b) h
  rw [wu (fun x hx=>(hm x hx).1.ok) h.2.2.2.2.2.1 h.2.2.2.2.2.2,RA (wo k _) (fun hv=>(hm _ hv).2.2.1 rfl) (fun hv=>(hm _ hv).2.2.2 rfl),Bq]
 ·rw [bu hn,wu (by simpa using h.ok) (by simp [rV]) (by unfold mI;exact Nat.le_trans (List.length_filterMap_le ..) (by simp))]
  unfold oV
  by_cases hz:t=eT k
  ·rw [if_pos (by simp [hz]),hz]
  ·rw [if_neg (by simpa using fun e=>hz e.symm)]
   by_cases hu:t=bG k
   ·rw [hu];simp
   ·simp [hu,gX]
end Go.Proofs.YtfolanohokflkaaGreatDoor
namespace Go.Proofs.YtfolanohokflkaaGreatDoor
open Tm (eps)
inductive Pt where
 | set (l:List (Int×Int))
 | row (l:List Pt)
 | aW (k:Bool) (l:List Pt)
 | not (a:Pt)
 | rep (a:Pt) (least:Nat) (most:Option Nat)
def kP (l:List Tm):Tm:=l.foldr au eps
def mW (t:Tm):Tm:=aj false [eps,t]
def mJ (t:Tm) (n:Nat):Option Nat->Tm
 | Option.none=>(List.replicate n t).foldr au (gN t)
 | some m=>(List.replicate n t).foldr au (kP (List.replicate (m - n) (mW t)))
mutual
def dL:Pt->Tm
 | .set l=>.set l
 | .row l=>kP (wy l)
 | .aW k l=>aj k (wy l)
 | .not a=>jO (dL a)
 | .rep a n m=>mJ (dL a) n m
def wy:List Pt->List Tm
 | []=>[]
 | p::r=>dL p::wy r
end
theorem wB:∀ l:List Pt,wy l=l.map dL
 | []=>by rw [wy];rfl
 | p::r=>by rw [wy,wB r];rfl
mutual
def oZ:Pt->Prop
 | .set l=>Tidy l
 | .row l=>Br l
 | .aW _ l=>Br l
 | .not a=>oZ a
 | .rep a _ _=>oZ a
def Br:List Pt->Prop
 | []=>True
 | p::r=>oZ p/\Br r
end
theorem wC {l:List Tm} {t:Tm} (hl:∀ x∈l,Cn x) (ht:Cn t):Cn (l.foldr au t):=by
 induction l with
 | nil=>exact ht
 | cons x l ih=>exact fD _ _ (hl x (List.mem_cons_self ..)) (ih fun y hy=>hl y (List.mem_cons_of_mem _ hy))
theorem U0 {t:Tm} (h:Cn t):Cn (mW t):=kN fun x hx=>by
 simp at hx
 rcases hx with rfl | rfl
 ·trivial
 ·exact h
theorem abJ {t:Tm} (h:Cn t) (n:Nat) (m:Option Nat):Cn (mJ t n m):=by
 have hr:∀ x∈List.replicate n t,Cn x:=fun x hx=>by rw [(List.mem_replicate.1 hx).2];exact h
 cases m with
 | none=>exact wC hr (O5 h)
 | some m=>exact wC hr (wC (fun x hx=>by rw [(List.mem_replicate.1 hx).2];exact U0 h) trivial)
mutual
theorem qA:∀ {p:Pt},oZ p->Cn (dL p)
 | .set l,h=>by rw [oZ] at h;rw [dL];exact ⟨h,fun e=>absurd rfl e⟩
 | .row l,h=>by rw [oZ] at h;rw [dL];exact wC (Gq h) trivial
 | .aW k l,h=>by rw [oZ] at h;rw [dL];exact kN (Gq h)
 | .not a,h=>by rw [oZ] at h;rw [dL];exact UZ (qA h)
 | .rep a n m,h=>by rw [oZ] at h;rw [dL];exact abJ (qA h) n m
theorem Gq:∀ {l:List Pt},Br l->∀ t∈wy l,Cn t
 | [],_=>by rw [wy];simp
 | p::r,h=>by
  rw [Br] at h
  rw [wy]
  have hp:=qA h.1
  have hr:=Gq h.2
  intro t ht
  rcases List.mem_cons.1 ht with rfl | ht
  ·exact hp
  ·exact hr t ht
end
def Pow (P:List Int->Prop):Nat->List Int->Prop
 | 0,w=>w=[]
 | n+1,w=>∃ u v,w=u++v/\P u/\Pow P n v
theorem Bu {P:List Int->Prop} {w:List Int}:Star P w↔∃ n,Pow P n w:=by
 constructor
 ·intro h
  induction h with
  | nil=>exact ⟨0,rfl⟩
  | more hp _ ih=>
   obtain ⟨n,hn⟩:=ih
   exact ⟨n+1,_,_,rfl,hp,hn⟩
 ·rintro ⟨n,h⟩
  induction n generalizing w with
  | zero=>rw [show w=[] from h];exact .nil
  | succ n ih=>
   obtain ⟨u,v,rfl,hp,hn⟩:=h
   exact .more hp (ih hn)
theorem pV {t b:Tm}:∀ (n:Nat) (w:List Int),wd ((List.replicate n t).foldr au b) w↔∃ u v,w=u++v/\Pow (wd t) n u/\wd b v
 | 0,w=>by
  constructor
  ·intro h;exact ⟨[],w,rfl,rfl,h⟩
  ·rintro ⟨u,v,rfl,hu,hv⟩
   rw [show u=[] from hu];exact hv
 | n+1,w=>by
  rw [List.replicate_succ,List.foldr_cons,ku]
  constructor
  ·rintro ⟨u,v,rfl,hu,hv⟩
   obtain ⟨u2,v2,rfl,hp,hb⟩:=(pV n v).1 hv
   exact ⟨u++u2,v2,by simp,⟨u,u2,rfl,hu,hp⟩,hb⟩
  ·rintro ⟨u,v,rfl,⟨u1,u2,rfl,h1,h2⟩,hb⟩
   exact ⟨u1,u2++v,by simp,h1,(pV n _).2 ⟨u2,v,rfl,h2,hb⟩⟩
theorem wD {P Q:List Int->Prop} (S:List Int->Prop) (hS:∀ u v,S (u++v)->S u/\S v) (hQ:∀ w,S w->(Q w↔w=[]\/P w)):∀ (k:Nat) (w:List Int),S w->(Pow Q k w↔∃ j,j<=k/\Pow P j w)
 | 0,w,_=>by
  constructor
  ·intro h;exact ⟨0,Nat.le_refl _,h⟩
  ·rintro ⟨j,hj,h⟩
   have:j=0:=by omega
   subst this;exact h
 | k+1,w,hs=>by
  constructor
  ·rintro ⟨u,v,rfl,hu,hv⟩
   obtain ⟨s1,s2⟩:=hS u v hs
   obtain ⟨j,hj,hp⟩:=(wD S hS hQ k v s2).1 hv
   rcases (hQ u s1).1 hu with rfl | hu
   ·exact ⟨j,by omega,hp⟩
   ·exact ⟨j+1,by omega,u,v,rfl,hu,hp⟩
  ·rintro ⟨j,hj,h⟩
   cases j with
   | zero=>
    refine ⟨[],w,rfl,(hQ [] (hS [] w hs).1).2 (.inl rfl),(wD S hS hQ k w hs).2 ⟨0,Nat.zero_le _,h⟩⟩
   | succ j=>
    obtain ⟨u,v,rfl,hu,hv⟩:=h
    obtain ⟨s1,s2⟩:=hS u v hs
    exact ⟨u,v,rfl,(hQ u s1).2 (.inr hu),(wD S hS hQ k v s2).2 ⟨j,by omega,hv⟩⟩
theorem pow_add {P:List Int->Prop}:∀ (m n:Nat) (w:List Int),Pow P (m+n) w↔∃ u v,w=u++v/\Pow P m u/\Pow P n v
 | 0,n,w=>by
  rw [Nat.zero_add]
  constructor
  ·intro h;exact ⟨[],w,rfl,rfl,h⟩
  ·rintro ⟨u,v,rfl,hu,hv⟩
   rw [show u=[] from hu];exact hv
 | m+1,n,w=>by
  rw [show m+1+n=(m+n)+1 from by omega]
  constructor
  ·rintro ⟨u,v,rfl,hu,hv⟩
   obtain ⟨u2,v2,rfl,h1,h2⟩:=(pow_add m n v).1 hv
   exact ⟨u++u2,v2,by simp,⟨u,u2,rfl,hu,h1⟩,h2⟩
  ·rintro ⟨u,v,rfl,⟨u1,u2,rfl,h1,h2⟩,h3⟩
   exact ⟨u1,u2++v,by simp,h1,(pow_add m n _).2 ⟨u2,v,rfl,h2,h3⟩⟩
theorem Jg (u v:List Int) (h:dU (u++v)):dU u/\dU v:=⟨h.left,h.right⟩
theorem U1 {t:Tm} (h:gp t) {w:List Int} (hw:dU w):wd (mW t) w↔w=[]\/wd t w:=by
 rw [mW,tQ (by
  intro x hx
  simp at hx
  rcases hx with rfl | rfl
  ·trivial
  ·exact h) hw]
 simp [oC,wd]
theorem abK {t:Tm} (h:gp t) (n:Nat) (m:Option Nat) {w:List Int} (hw:dU w) :
  wd (mJ t n m) w↔∃ j,n<=j/\(∀ k,m=some k->j<=max n k)/\Pow (wd t) j w:=by
 cases m with
 | none=>
  rw [mJ,pV]
  constructor
  ·rintro ⟨u,v,rfl,hu,hv⟩
   obtain ⟨j,hj⟩:=Bu.1 ((I8 t v).1 hv)
   exact ⟨n+j,by omega,by simp,(pow_add n j _).2 ⟨u,v,rfl,hu,hj⟩⟩
  ·rintro ⟨j,hj,_,hp⟩
   obtain ⟨u,v,rfl,h1,h2⟩:=(pow_add n (j - n) w).1 (by rw [show n+(j - n)=j from by omega];exact hp)
   exact ⟨u,v,rfl,h1,(I8 t v).2 (Bu.2 ⟨_,h2⟩)⟩
 | some m=>
  rw [mJ,pV]
  constructor
  ·rintro ⟨u,v,rfl,hu,hv⟩
   obtain ⟨a,b,rfl,h1,h2⟩:=(pV (t:=mW t) (b:=eps) (m - n) v).1 hv
   rw [show b=[] from h2] at *
   obtain ⟨j,hj,hp⟩:=(wD dU Jg (fun w hw=>U1 h hw) (m - n) a hw.right.left).1 h1
   exact ⟨n+j,by omega,fun k e=>by cases e;omega,(pow_add n j _).2 ⟨u,a,by simp,hu,hp⟩⟩
  ·rintro ⟨j,hj,hk,hp⟩
   obtain ⟨u,v,rfl,h1,h2⟩:=(pow_add n (j - n) w).1 (by rw [show n+(j - n)=j from by omega];exact hp)
   refine ⟨u,v,rfl,h1,(pV (t:=mW t) (b:=eps) (m - n) v).2 ⟨v,[],by simp,?_,rfl⟩⟩
   exact (wD dU Jg (fun w hw=>U1 h hw) (m - n) v hw.right).2 ⟨j - n,by have:=hk m rfl;omega,h2⟩
end Go.Proofs.YtfolanohokflkaaGreatDoor
namespace Go.Proofs.YtfolanohokflkaaGreatDoor
abbrev Pn:=Pt×Int
abbrev jc:=Nat×Option Nat×Int
def fK (n:Nat) (m:jc) (l:List Sy):bn jc:=if hd l=125 then .ok (m,l.tail) else bad 2 n l
def gI (n:Nat) (l:List Sy):bn jc:=
 match bP n 0 l with
 | .error x=>.error x
 | .ok (a,l1)=>
  if hd l1=44 then
   (if hd l1.tail=125 then .ok ((a.toNat,none,a+1),l1.tail.tail)
    else match bP n a l1.tail with
     | .error x=>.error x
     | .ok (m,l2)=>fK n (a.toNat,some m.toNat,kE m) l2)
  else fK n (a.toNat,some a.toNat,kE a) l1
def dM (n:Nat) (l:List Sy):bn jc:=
 if hd l=123 then gI n l.tail
 else if hd l=42 then .ok ((0,none,2),l.tail)
 else if hd l=43 then .ok ((1,none,2),l.tail)
 else .ok ((0,some 1,2),l.tail)
def zX:ah:=[(48,57)]
def wE:ah:=[(48,57),(65,90),(95,95),(97,122)]
def iF (l:List Sy):ah:=if hd l.tail=100 then zX else wE
def jA (n:Nat) (l:List Sy):bn ah:=
 if isSet l=true then .ok (iF l,l.tail.tail)
 else match fe n l with
  | .error x=>.error x
  | .ok (a,l1)=>
   if hd l1=45 then (match fe n l1.tail with
    | .error x=>.error x
    | .ok (b,l2)=>if b<a then bad 3 n l2 else .ok ([(a,b)],l2))
   else .ok ([(a,a)],l1)
def bB (n:Nat):Nat->ah->List Sy->bn ah
 | 0,_,l=>bad 2 n l
 | f+1,s,l=>if hd l=93 then .ok (s,l.tail) else match jA n l with
  | .error x=>.error x
  | .ok (p,l1)=>bB n f (q9 s p) l1
def Bv:bn ah->bn ah
 | .error x=>.error x
 | .ok (s,l)=>.ok (fU s,l)
def iG (n:Nat) (l:List Sy):bn ah:=
 if hd l=94 then Bv (bB n (l.length+1) [] l.tail) else bB n (l.length+1) [] l
def Gr:ah:=fU []
def RB:bn Int->bn ah
 | .error x=>.error x
 | .ok (c,l)=>.ok ([(c,c)],l)
def eB (n:Nat) (l:List Sy):bn ah:=
 if hd l=91 then iG n l.tail
 else if hd l=92 then (if isSet l=true then .ok (iF l,l.tail.tail) else RB (dJ n l.tail))
 else if hd l=46 then .ok (Gr,l.tail)
 else if hd l<0\/mG (hd l)=true then bad 2 n l
 else .ok ([(hd l,hd l)],l.tail)
def kY:bn ah->bn Pn
 | .error x=>.error x
 | .ok (s,l)=>.ok ((.set s,1),l)
def x9 (p:Pn) (o:jc):Pn:=(.rep p.1 o.1 o.2.1,dG (p.2*o.2.2))
def Jh (p:Pn):Pn:=(.not p.1,dG (p.2+1))
def gY (n:Nat):Nat->Pn->List Sy->bn Pn
 | 0,_,l=>bad 2 n l
 | f+1,z,l=>if kH (hd l)=true then (match dM n l with
   | .error x=>.error x
   | .ok (m,l1)=>gY n f (x9 z m) l1)
  else .ok (z,l)
def cO (n:Nat) (atom:List Sy->bn Pn):Nat->List Sy->bn Pn
 | 0,l=>bad 2 n l
 | f+1,l=>if hd l=126 then (match cO n atom f l.tail with
   | .error x=>.error x
   | .ok (z,l1)=>.ok (Jh z,l1))
  else match atom l with
   | .error x=>.error x
   | .ok (z,l1)=>gY n (l1.length+1) z l1
def dR:List Pn->Int
 | []=>0
 | p::r=>p.2+dR r
def eU (l:List Pn):Pn:=match l with
 | [p]=>p
 | l=>(.row (l.map Prod.fst),if l.length=0 then 1 else min (((l.length:Int) - 1)+dR l) 61)
def jB (k:Bool) (l:List Pn):Pn:=match l with
 | [p]=>p
 | l=>(.aW k (l.map Prod.fst),min (((l.length:Int) - 1)+dR l) 61)
def aR (n:Nat) (atom:List Sy->bn Pn):Nat->List Pn->List Sy->bn (List Pn)
 | 0,_,l=>bad 2 n l
 | f+1,z,l=>if iE (hd l)=true then .ok (z,l) else match cO n atom (l.length+1) l with
  | .error x=>.error x
  | .ok (y,l1)=>aR n atom f (z++[y]) l1
def o5 {a b:Type} (g:a->b):bn a->bn b
 | .error x=>.error x
 | .ok (v,l)=>.ok (g v,l)
def rowP (n:Nat) (atom:List Sy->bn Pn) (l:List Sy):bn Pn:=
 if iE (hd l)=true then .ok (eU [],l) else match cO n atom (l.length+1) l with
  | .error x=>.error x
  | .ok (y,l1)=>o5 eU (aR n atom (l1.length+1) [y] l1)
def aX (n:Nat) (sub:List Sy->bn Pn) (sign:Int):Nat->List Pn->List Sy->bn (List Pn)
 | 0,_,l=>bad 2 n l
 | f+1,z,l=>if hd l=sign then (match sub l.tail with
   | .error x=>.error x
   | .ok (y,l1)=>aX n sub sign f (z++[y]) l1)
  else .ok (z,l)
def ma (n:Nat) (sub:List Sy->bn Pn) (sign:Int) (g:List Pn->Pn) (l:List Sy):bn Pn:=
 match sub l with
 | .error x=>.error x
 | .ok (y,l1)=>o5 g (aX n sub sign (l1.length+1) [y] l1)
def aa2 (n:Nat) (atom:List Sy->bn Pn):List Sy->bn Pn:=ma n (rowP n atom) 38 (jB true)
def bU (n:Nat) (atom:List Sy->bn Pn):List Sy->bn Pn:=ma n (aa2 n atom) 124 (jB false)
def DZ (n:Nat):bn Pn->bn Pn
 | .error x=>.error x
 | .ok (z,l)=>if hd l=41 then .ok (z,l.tail) else bad 2 n l
def bH (n:Nat):Nat->List Sy->bn Pn
 | 0,l=>if hd l=40 then bad 4 n l else kY (eB n l)
 | k+1,l=>if hd l=40 then DZ n (bU n (bH n k) l.tail) else kY (eB n l)
def nR (n:Nat):bn Pn->Except (Int×Int) Pt
 | .error x=>.error x
 | .ok (z,l)=>if hd l<0 then (if 60<z.2 then .error (5,0) else .ok z.1) else .error (2,AJ n l)
def aZ (s:ByteArray):Except (Int×Int) Pt:=if 60<s.size then .error (1,0) else nR s.size (bU s.size (bH s.size 8) (af s 0))
def U2:Except (Int×Int) Pt->Int×Int
 | .error x=>x
 | .ok _=>(0,0)
theorem Bw (s:ByteArray) (i:Nat):aD ((Utf8.decode s i).1:Int)=true:=by
 have h:=jh s i
 have e:((Utf8.decode s i).1:Int)=(rA s i).1:=by rw [h]
 rw [e]
 have hend:∀ (size:Nat) (least:Int) (o:Option Int),aD (jE size least o).1=true:=by
  intro size least o
  cases o with
  | none=>rfl
  | some n=>
   rw [jE]
   split
   ·rfl
   ·split
    ·assumption
    ·rfl
 unfold rA
 simp only []
 have g0:=(s.get! i).toNat_lt
 split
 ·rw [aC];simp only [];omega
 ·repeat' split
  all_goals first | exact hend _ _ _ | rfl
def bz (l:List Sy):Prop:=∀ x∈l,aD (x.c:Int)=true
theorem bz.tail {l:List Sy} (h:bz l):bz l.tail:=fun x hx=>h x (List.mem_of_mem_tail hx)
theorem bz.hd {l:List Sy} (h:bz l) (h0:¬ hd l<0):aD (hd l)=true:=by
 cases l with
 | nil=>exact absurd (by decide) h0
 | cons x r=>exact h x (List.mem_cons_self ..)
theorem Bz (s:ByteArray):∀ (f p:Nat),bz (jF s f p)
 | 0,_=>by intro x hx;simp [jF] at hx
 | f+1,p=>by
  rw [jF]
  split
  ·intro x hx
   rcases List.mem_cons.1 hx with rfl | hx
   ·exact Bw s p
   ·exact Bz s f _ x hx
  ·intro x hx;simp at hx
theorem kQ (s:ByteArray) (p:Nat):bz (af s p):=Bz s _ p
def Good {a:Type} (P:a->Prop) (r:bn a):Prop:=∀ v l,r=.ok (v,l)->P v/\bz l
theorem Good.bad {a:Type} {P:a->Prop} {e:Int} {n:Nat} {l:List Sy}:Good P (bad e n l):=fun _ _ h=>by simp [Go.Proofs.YtfolanohokflkaaGreatDoor.bad] at h
theorem Good.err {a:Type} {P:a->Prop} {x:Int×Int}:Good P (.error x:bn a):=fun _ _ h=>by cases h
theorem Good.ok {a:Type} {P:a->Prop} {v:a} {l:List Sy} (h:P v) (hl:bz l):Good P (.ok (v,l)):=fun _ _ e=>by cases e;exact ⟨h,hl⟩
theorem Good.map {a b:Type} {P:a->Prop} {Q:b->Prop} {g:a->b} {r:bn a} (h:Good P r) (hg:∀ v,P v->Q (g v)):Good Q (o5 g r):=by
 cases r with
 | error x=>exact Good.err
 | ok y=>
  obtain ⟨v,l⟩:=y
  have:=h v l rfl
  exact Good.ok (hg v this.1) this.2
theorem yZ {n:Nat} {least:Int} {l:List Sy} (h:bz l):Good (fun _=>True) (bP n least l):=by
 unfold bP
 split
 ·split
  ·exact Good.bad
  ·intro v l' e
   refine ⟨trivial,?_⟩
   simp only [Except.ok.injEq] at e
   have e2:(iR l).2=l':=by rw [e]
   rw [<-e2]
   unfold iR
   split
   ·exact h.tail.tail
   ·exact h.tail
 ·exact Good.bad
theorem BA {n:Nat} {m:jc} {l:List Sy} (h:bz l):Good (fun _=>True) (fK n m l):=by
 unfold fK;split
 ·exact Good.ok trivial h.tail
 ·exact Good.bad
theorem Ji {n:Nat} {l:List Sy} (h:bz l):Good (fun _=>True) (gI n l):=by
 unfold gI
 have g:=yZ (n:=n) (least:=0) h
 split
 ·exact Good.err
 ·rename_i a l1 e
  have h1:=(g _ _ e).2
  split
  ·split
   ·exact Good.ok trivial h1.tail.tail
   ·have g2:=yZ (n:=n) (least:=a) h1.tail
    split
    ·exact Good.err
    ·rename_i m l2 e2
     exact BA (g2 _ _ e2).2
  ·exact BA h1
theorem oH {n:Nat} {l:List Sy} (h:bz l):Good (fun _=>True) (dM n l):=by
 unfold dM
 split
 ·exact Ji h.tail
 ·split
  ·exact Good.ok trivial h.tail
  ·split
   ·exact Good.ok trivial h.tail
   ·exact Good.ok trivial h.tail
abbrev Zb (c:Int):Prop:=aD c=true
theorem Jj:∀ (f:Nat) (v:Int) (k:Nat) {l:List Sy},bz l->bz (mQ f v k l).2.2
 | 0,_,_,_,h=>h
 | f+1,v,k,l,h=>by
  rw [mQ];split
  ·exact Jj f _ _ h.tail
  ·exact h
theorem RD {n:Nat} {l:List Sy} (h:bz l):Good Zb (mM n l):=by
 unfold mM
 split
 ·unfold kI
  split
  ·exact Good.bad
  ·split
   ·rename_i hs
    exact Good.ok hs (Jj 6 0 0 h.tail).tail
   ·exact Good.bad
 ·exact Good.bad
theorem Zc {c:Int} (h:qR c=true):¬ c<0:=by
 unfold qR mG at h
 simp at h;omega
theorem rW {n:Nat} {l:List Sy} (h:bz l):Good Zb (dJ n l):=by
 unfold dJ
 split
 ·exact RD h.tail
 ·split
  ·exact Good.ok (by decide) h.tail
  ·split
   ·rename_i he
    exact Good.ok (h.hd (Zc he)) h.tail
   ·exact Good.bad
theorem qB {n:Nat} {l:List Sy} (h:bz l):Good Zb (fe n l):=by
 unfold fe
 split
 ·exact rW h.tail
 ·split
  ·exact Good.bad
  ·rename_i hn
   exact Good.ok (h.hd (fun e=>hn (.inl e))) h.tail
theorem Gs {c:Int} (h:aD c=true):0<=c:=(aC.1 h).1
theorem O6 {a b:Int} (ha:aD a=true) (hb:aD b=true):Pos [(a,b)]:=fun x hx=>by simp at hx;subst hx;exact ⟨Gs ha,Gs hb⟩
theorem BB {a:Int} (h:aD a=true):Tidy [(a,a)]:=⟨by show -1<a;have:=Gs h;omega,h,h,Int.le_refl _,trivial⟩
theorem wF (l:List Sy):Tidy (iF l):=by unfold iF;split<;>simp [zX,wE,Tidy,fC,aD,kJ]
theorem EB {n:Nat} {l:List Sy} (h:bz l):Good Pos (jA n l):=by
 unfold jA
 split
 ·exact Good.ok (wF l).pos h.tail.tail
 ·have g:=qB (n:=n) h
  split
  ·exact Good.err
  ·rename_i a l1 e
   obtain ⟨ha,h1⟩:=g _ _ e
   split
   ·have g2:=qB (n:=n) h1.tail
    split
    ·exact Good.err
    ·rename_i b l2 e2
     obtain ⟨hb,h2⟩:=g2 _ _ e2
     split
     ·exact Good.bad
     ·exact Good.ok (O6 ha hb) h2
   ·exact Good.ok (O6 ha ha) h1
theorem kR {n:Nat}:∀ (f:Nat) {s:ah} {l:List Sy},Tidy s->bz l->Good Tidy (bB n f s l)
 | 0,_,_,_,_=>Good.bad
 | f+1,s,l,hs,h=>by
  rw [bB]
  split
  ·exact Good.ok hs h.tail
  ·have g:=EB (n:=n) h
   split
   ·exact Good.err
   ·rename_i p l1 e
    obtain ⟨hp,h1⟩:=g _ _ e
    exact kR f (jl hs.pos hp) h1
theorem MS {n:Nat} {l:List Sy} (h:bz l):Good Tidy (iG n l):=by
 unfold iG
 split
 ·have g:=kR (n:=n) (l.length+1) (s:=[]) trivial h.tail
  unfold Bv
  split
  ·exact Good.err
  ·rename_i s l1 e
   obtain ⟨hs,h1⟩:=g _ _ e
   exact Good.ok (dI hs.pos) h1
 ·exact kR _ trivial h
theorem RF {n:Nat} {l:List Sy} (h:bz l):Good Tidy (eB n l):=by
 unfold eB
 split
 ·exact MS h.tail
 split
 ·split
  ·exact Good.ok (wF l) h.tail.tail
  ·have g:=rW (n:=n) h.tail
   unfold RB
   split
   ·exact Good.err
   ·rename_i c l1 e
    obtain ⟨hc,h1⟩:=g _ _ e
    exact Good.ok (BB hc) h1
 split
 ·exact Good.ok (dI oG) h.tail
 split
 ·exact Good.bad
 ·rename_i hn
  exact Good.ok (BB (h.hd fun e=>hn (.inl e))) h.tail
abbrev u7 (p:Pn):Prop:=oZ p.1
abbrev fI (a:List Sy->bn Pn):Prop:=∀ l,bz l->Good u7 (a l)
theorem EC {n:Nat} {l:List Sy} (h:bz l):Good u7 (kY (eB n l)):=by
 have g:=RF (n:=n) h
 unfold kY
 split
 ·exact Good.err
 ·rename_i s l1 e
  obtain ⟨hs,h1⟩:=g _ _ e
  exact Good.ok (by show oZ (.set s);rw [oZ];exact hs) h1
theorem ED {n:Nat}:∀ (f:Nat) {z:Pn} {l:List Sy},u7 z->bz l->Good u7 (gY n f z l)
 | 0,_,_,_,_=>Good.bad
 | f+1,z,l,hz,h=>by
  rw [gY]
  split
  ·have g:=oH (n:=n) h
   split
   ·exact Good.err
   ·rename_i m l1 e
    exact ED f (by show oZ (.rep z.1 m.1 m.2.1);rw [oZ];exact hz) (g _ _ e).2
  ·exact Good.ok hz h
theorem jo {n:Nat} {a:List Sy->bn Pn} (ha:fI a):∀ (f:Nat) {l:List Sy},bz l->Good u7 (cO n a f l)
 | 0,_,_=>Good.bad
 | f+1,l,h=>by
  rw [cO]
  split
  ·have g:=jo (n:=n) ha f h.tail
   split
   ·exact Good.err
   ·rename_i z l1 e
    obtain ⟨hz,h1⟩:=g _ _ e
    exact Good.ok (by show oZ (.not z.1);rw [oZ];exact hz) h1
  ·have g:=ha l h
   split
   ·exact Good.err
   ·rename_i z l1 e
    obtain ⟨hz,h1⟩:=g _ _ e
    exact ED _ hz h1
theorem BC:∀ {l:List Pn},Br (l.map Prod.fst)↔∀ p∈l,u7 p
 | []=>by simp [Br]
 | p::r=>by rw [List.map_cons,Br,BC];simp
theorem Jk {l:List Pn} (h:∀ p∈l,u7 p):u7 (eU l):=by
 unfold eU
 split
 ·exact h _ (List.mem_cons_self ..)
 ·show oZ (.row _);rw [oZ,BC];exact h
theorem Jl {k:Bool} {l:List Pn} (h:∀ p∈l,u7 p):u7 (jB k l):=by
 unfold jB
 split
 ·exact h _ (List.mem_cons_self ..)
 ·show oZ (.aW k _);rw [oZ,BC];exact h
theorem O7 {z:List Pn} {y:Pn} (hz:∀ p∈z,u7 p) (hy:u7 y):∀ p∈z++[y],u7 p:=by
 intro p hp
 rcases List.mem_append.1 hp with hp | hp
 ·exact hz p hp
 ·simp at hp;subst hp;exact hy
theorem mX {n:Nat} {a:List Sy->bn Pn} (ha:fI a):∀ (f:Nat) {z:List Pn} {l:List Sy},(∀ p∈z,u7 p)->bz l->Good (fun z=>∀ p∈z,u7 p) (aR n a f z l)
 | 0,_,_,_,_=>Good.bad
 | f+1,z,l,hz,h=>by
  rw [aR]
  split
  ·exact Good.ok hz h
  ·have g:=jo (n:=n) ha (l.length+1) h
   split
   ·exact Good.err
   ·rename_i y l1 e
    obtain ⟨hy,h1⟩:=g _ _ e
    exact mX ha f (O7 hz hy) h1
theorem x_ {y:Pn} (hy:u7 y):∀ p∈[y],u7 p:=by intro p hp;simp at hp;subst hp;exact hy
theorem good_row {n:Nat} {a:List Sy->bn Pn} (ha:fI a):fI (rowP n a):=by
 intro l h
 unfold rowP
 split
 ·exact Good.ok (Jk (by simp)) h
 ·have g:=jo (n:=n) ha (l.length+1) h
  split
  ·exact Good.err
  ·rename_i y l1 e
   obtain ⟨hy,h1⟩:=g _ _ e
   exact (mX ha (l1.length+1) (x_ hy) h1).map fun _ hv=>Jk hv
theorem mY {n:Nat} {a:List Sy->bn Pn} (ha:fI a) (sg:Int):∀ (f:Nat) {z:List Pn} {l:List Sy},(∀ p∈z,u7 p)->bz l->Good (fun z=>∀ p∈z,u7 p) (aX n a sg f z l)
 | 0,_,_,_,_=>Good.bad
 | f+1,z,l,hz,h=>by
  rw [aX]
  split
  ·have g:=ha l.tail h.tail
   split
   ·exact Good.err
   ·rename_i y l1 e
    obtain ⟨hy,h1⟩:=g _ _ e
    exact mY ha sg f (O7 hz hy) h1
  ·exact Good.ok hz h
theorem Jm {n:Nat} {a:List Sy->bn Pn} (ha:fI a) (sg:Int) {g:List Pn->Pn} (hg:∀ z,(∀ p∈z,u7 p)->u7 (g z)):fI (ma n a sg g):=by
 intro l h
 unfold ma
 have g1:=ha l h
 split
 ·exact Good.err
 ·rename_i y l1 e
  obtain ⟨hy,h1⟩:=g1 _ _ e
  exact (mY ha sg (l1.length+1) (x_ hy) h1).map hg
theorem tT {n:Nat} {a:List Sy->bn Pn} (ha:fI a):fI (aa2 n a):=Jm (good_row ha) 38 fun _ hv=>Jl hv
theorem y5 {n:Nat} {a:List Sy->bn Pn} (ha:fI a):fI (bU n a):=Jm (tT ha) 124 fun _ hv=>Jl hv
theorem ky {n:Nat}:∀ k:Nat,fI (bH n k)
 | 0=>by
  intro l h
  rw [bH]
  split
  ·exact Good.bad
  ·exact EC h
 | k+1=>by
  intro l h
  rw [bH]
  split
  ·have g:=y5 (n:=n) (ky (n:=n) k) l.tail h.tail
   unfold DZ
   split
   ·exact Good.err
   ·rename_i z l1 e
    obtain ⟨hz,h1⟩:=g _ _ e
    split
    ·exact Good.ok hz h1.tail
    ·exact Good.bad
  ·exact EC h
theorem pW {s:ByteArray} {q:Pt} (h:aZ s=.ok q):oZ q:=by
 unfold aZ at h
 split at h
 ·cases h
 ·have g:=y5 (n:=s.size) (ky (n:=s.size) 8) (af s 0) (kQ s 0)
  unfold nR at h
  split at h
  ·cases h
  ·rename_i z l e
   obtain ⟨hz,_⟩:=g _ _ e
   split at h
   ·split at h
    ·cases h
    ·cases h;exact hz
   ·cases h
end Go.Proofs.YtfolanohokflkaaGreatDoor
