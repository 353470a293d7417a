import Derived.Test.YtfolanohokflkaaGreatDoorShelfG
import Derived.Test.YtfolanohokflkaaGreatDoorDec
namespace Go.Proofs.YtfolanohokflkaaGreatDoor
inductive Tm where
 | set (l:List (Int×Int))
 | eps
 | chain (a b:Tm)
 | star (a:Tm)
 | not (a:Tm)
 | aT (k:Bool) (a b:Tm)
deriving DecidableEq
abbrev aH:Tm:=.set []
abbrev whole:Tm:=.not (.set [])
open Tm (eps)
def G6 (d:Nat):UInt8:=if d<10 then UInt8.ofNat (48+d) else UInt8.ofNat (87+d)
def Fe:Nat->Nat->List UInt8->List UInt8
 | 0,_,acc=>acc
 | f+1,n,acc=>if n / 16=0 then G6 (n % 16)::acc else Fe f (n / 16) (G6 (n % 16)::acc)
def G7 (n:Nat):List UInt8:=Fe (n+1) n []
def mZ:ah->List UInt8
 | []=>[]
 | x::r=>G7 x.1.toNat++(45::(G7 x.2.toNat++(44::mZ r)))
def sign (k:Bool):UInt8:=if k=true then 38 else 124
def di:Option Bool->Tm->List UInt8
 | _,.set l=>91::(mZ l++[93])
 | _,.eps=>[101]
 | _,.chain a b=>46::(di .none a++di .none b)
 | _,.star a=>42::di .none a
 | _,.not a=>126::di .none a
 | m,.aT k a b=>if m=some k then di .none a++di (some k) b else sign k::(di .none a++(di (some k) b++[59]))
abbrev rend (t:Tm):List UInt8:=di Option.none t
def M6:List UInt8->List UInt8->Bool
 | [],_=>false
 | _::_,[]=>true
 | x::r,y::s=>if x=y then M6 r s else decide (y<x)
def Rl (a b:Tm):Bool:=M6 (rend a) (rend b)
def bI:Tm->Bool
 | .chain _ _=>true
 | _=>false
def au:Tm->Tm->Tm
 | .chain x y,b=>if b=aH then aH else if b=eps then .chain x y else au x (au y b)
 | .set l,b=>if .set l=aH\/b=aH then aH else if b=eps then .set l else .chain (.set l) b
 | .eps,b=>b
 | .star a,b=>if b=aH then aH else if b=eps then .star a else .chain (.star a) b
 | .not a,b=>if b=aH then aH else if b=eps then .not a else .chain (.not a) b
 | .aT k x y,b=>if b=aH then aH else if b=eps then .aT k x y else .chain (.aT k x y) b
def gZ (a:Tm):Tm:=if a=aH\/a=eps then eps else match a with
 | .star x=>.star x
 | x=>.star x
def jF:Tm->Tm
 | .not a=>a
 | a=>.not a
def memT (k:Bool):Tm->List Tm
 | .aT k' a b=>if k'=k then a::memT k b else [.aT k' a b]
 | t=>[t]
def gM (k:Bool):List Tm->Tm
 | []=>aH
 | [a]=>a
 | a::r=>.aT k a (gM k r)
def bE (k:Bool):Tm:=if k=true then whole else aH
def eu (k:Bool):Tm:=if k=true then aH else whole
def aP:Tm->Option ah
 | .set l=>some l
 | _=>Option.none
def gK (k:Bool) (a b:ah):ah:=if k=true then GL a b else qA a b
def fK (k:Bool):List ah->Option ah
 | []=>Option.none
 | s::r=>some (r.foldl (gK k) s)
def y_ (f:List Tm):List Tm:=f.filter fun t=>(aP t).isNone
def outs (f:List Tm):List Tm:=(y_ f).foldl (fun l t=>oO Rl t l) []
def aV (k:Bool) (f:List Tm):List Tm:=match fK k (f.filterMap aP) with
 | Option.none=>outs f
 | some s=>oO Rl (.set s) (outs f)
def oG (k:Bool) (out:List Tm):Tm:=if eu k∈out then eu k else match out.filter (fun t=>decide (t≠bE k)) with
 | []=>bE k
 | l=>gM k l
def aj (k:Bool) (l:List Tm):Tm:=oG k (aV k (l.flatMap (memT k)))
def cO:Tm->Bool
 | .set _=>false
 | .eps=>true
 | .chain a b=>cO a&&cO b
 | .star _=>true
 | .not a=>!cO a
 | .aT k a b=>if k=true then cO a&&cO b else cO a||cO b
def uo:List Tm->Tm
 | t::_=>t
 | []=>aH
def pR (c:Int):Option Bool->Tm->List Tm
 | _,.set l=>[if dn l c=true then eps else aH]
 | _,.eps=>[aH]
 | _,.chain a b=>[if cO a=true then aj false [au (uo (pR c .none a)) b,uo (pR c .none b)] else au (uo (pR c .none a)) b]
 | _,.star a=>[au (uo (pR c .none a)) (.star a)]
 | _,.not a=>[jF (uo (pR c .none a))]
 | m,.aT k a b=>if m=some k then uo (pR c .none a)::pR c (some k) b else [aj k (uo (pR c .none a)::pR c (some k) b)]
def aG (c:Int) (t:Tm):Tm:=uo (pR c Option.none t)
theorem G8 (c:Int) (k:Bool):∀ t:Tm,pR c (some k) t=(memT k t).map (aG c)
 | .set l=>by simp [pR,memT,aG,uo]
 | .eps=>by simp [pR,memT,aG,uo]
 | .chain a b=>by simp [pR,memT,aG,uo]
 | .star a=>by simp [pR,memT,aG,uo]
 | .not a=>by simp [pR,memT,aG,uo]
 | .aT k' a b=>by
  have ih:=G8 c k b
  rw [pR,memT]
  by_cases h:k'=k
  ·subst h
   rw [if_pos rfl,if_pos rfl,ih];rfl
  ·rw [if_neg h,if_neg (by simpa using fun e=>h e.symm)]
   simp [aG,pR,uo]
theorem g_ (c:Int) (l:ah):aG c (.set l)=if dn l c=true then eps else aH:=rfl
theorem Sd (c:Int):aG c eps=aH:=rfl
theorem eF (c:Int) (a b:Tm):aG c (.chain a b)=if cO a=true then aj false [au (aG c a) b,aG c b] else au (aG c a) b:=rfl
theorem o6 (c:Int) (a:Tm):aG c (.star a)=au (aG c a) (.star a):=rfl
theorem qO (c:Int) (a:Tm):aG c (.not a)=jF (aG c a):=rfl
theorem lM (c:Int) (k:Bool) (a b:Tm):aG c (.aT k a b)=aj k ((memT k (.aT k a b)).map (aG c)):=by
 rw [memT,if_pos rfl,List.map_cons,<-G8]
 simp [aG,pR,uo]
theorem jW (a b:Tm):au a b=if a=aH\/b=aH then aH else if a=eps then b else if b=eps then a else match a with
  | .chain x y=>au x (au y b)
  | a=>.chain a b:=by
 cases a with
 | set l=>by_cases h:l=[]<;>simp [au,h]
 | eps=>by_cases h:b=aH<;>simp [au,h]
 | chain x y=>simp [au]
 | star a=>simp [au]
 | not a=>simp [au]
 | aT k x y=>simp [au]
theorem aQ (b:Tm):au aH b=aH:=by rw [jW];simp
theorem aF (a:Tm):au a aH=aH:=by rw [jW];simp
theorem bz (b:Tm):au eps b=b:=by cases b<;>rfl
theorem ai (a:Tm):au a eps=a:=by
 rw [jW]
 by_cases h:a=aH
 ·simp [h]
 ·by_cases h2:a=eps<;>simp [h,h2]
inductive Star (P:List Int->Prop):List Int->Prop where
 | nil:Star P []
 | more {u v:List Int}:P u->Star P v->Star P (u++v)
def wd:Tm->List Int->Prop
 | .set l,w=>∃ c,w=[c]/\dn l c=true
 | .eps,w=>w=[]
 | .chain a b,w=>∃ u v,w=u++v/\wd a u/\wd b v
 | .star a,w=>Star (wd a) w
 | .not a,w=>¬ wd a w
 | .aT k a b,w=>if k=true then wd a w/\wd b w else wd a w\/wd b w
def fB (w:List Int):Prop:=∀ c∈w,aC c=true
theorem fB.left {u v:List Int} (h:fB (u++v)):fB u:=fun c hc=>h c (List.mem_append_left _ hc)
theorem ku {w:List Int}:¬ wd aH w:=by rintro ⟨c,_,h⟩;simp [dn] at h
theorem vk {w:List Int}:wd whole w:=ku
theorem mM:∀ (a b:Tm) (w:List Int),wd (au a b) w↔∃ u v,w=u++v/\wd a u/\wd b v
 | a,b,w=>by
  rw [jW]
  by_cases h1:a=aH
  ·subst h1
   rw [if_pos (.inl rfl)]
   exact ⟨fun h=>absurd h ku,fun ⟨u,v,_,h,_⟩=>absurd h ku⟩
  by_cases h2:b=aH
  ·subst h2
   rw [if_pos (.inr rfl)]
   exact ⟨fun h=>absurd h ku,fun ⟨u,v,_,_,h⟩=>absurd h ku⟩
  rw [if_neg (by simp [h1,h2])]
  by_cases h3:a=eps
  ·subst h3
   rw [if_pos rfl]
   constructor
   ·intro h;exact ⟨[],w,rfl,rfl,h⟩
   ·rintro ⟨u,v,rfl,hu,hv⟩
    have hu':u=[]:=hu
    subst hu';exact hv
  rw [if_neg h3]
  by_cases h4:b=eps
  ·subst h4
   rw [if_pos rfl]
   constructor
   ·intro h;exact ⟨w,[],by simp,h,rfl⟩
   ·rintro ⟨u,v,rfl,hu,hv⟩
    have hv':v=[]:=hv
    subst hv';simpa using hu
  rw [if_neg h4]
  cases a with
  | chain x y=>
   show wd (au x (au y b)) w↔_
   rw [mM x]
   constructor
   ·rintro ⟨u,v,rfl,hu,hv⟩
    obtain ⟨u2,v2,rfl,hu2,hv2⟩:=(mM y b v).1 hv
    exact ⟨u++u2,v2,by simp,⟨u,u2,rfl,hu,hu2⟩,hv2⟩
   ·rintro ⟨u,v,rfl,⟨u1,u2,rfl,hu1,hu2⟩,hv⟩
    exact ⟨u1,u2++v,by simp,hu1,(mM y b _).2 ⟨u2,v,rfl,hu2,hv⟩⟩
  | set l=>exact Iff.rfl
  | eps=>exact absurd rfl h3
  | star a=>exact Iff.rfl
  | not a=>exact Iff.rfl
  | aT k x y=>exact Iff.rfl
 termination_by a=>a
theorem M7 (a:Tm) (w:List Int):wd (jF a) w↔¬ wd a w:=by
 cases a with
 | not x=>exact Classical.not_not.symm
 | set l=>exact Iff.rfl
 | eps=>exact Iff.rfl
 | chain x y=>exact Iff.rfl
 | star a=>exact Iff.rfl
 | aT k x y=>exact Iff.rfl
def nT (k:Bool) (l:List Tm) (w:List Int):Prop:=if k=true then ∀ t∈l,wd t w else ∃ t∈l,wd t w
theorem m_ (k:Bool) (t:Tm) (l:List Tm) (w:List Int):nT k (t::l) w↔if k=true then wd t w/\nT k l w else wd t w\/nT k l w:=by
 cases k<;>simp [nT]
theorem Aa (k:Bool) (l m:List Tm) (w:List Int):nT k (l++m) w↔if k=true then nT k l w/\nT k m w else nT k l w\/nT k m w:=by
 cases k
 ·simp only [nT,Bool.false_eq_true,if_false,List.mem_append]
  constructor
  ·rintro ⟨t,h | h,ht⟩
   ·exact .inl ⟨t,h,ht⟩
   ·exact .inr ⟨t,h,ht⟩
  ·rintro (⟨t,h,ht⟩ | ⟨t,h,ht⟩)
   ·exact ⟨t,.inl h,ht⟩
   ·exact ⟨t,.inr h,ht⟩
 ·simp only [nT,if_true,List.mem_append]
  exact ⟨fun h=>⟨fun t ht=>h t (.inl ht),fun t ht=>h t (.inr ht)⟩,fun h t ht=>ht.elim (h.1 t) (h.2 t)⟩
theorem Ff {k:Bool} {l m:List Tm} (h:∀ t,t∈l↔t∈m) (w:List Int):nT k l w↔nT k m w:=by
 cases k<;>simp [nT,h]
theorem K4 (k:Bool) (w:List Int):∀ t:Tm,wd t w↔nT k (memT k t) w
 | .set l=>by cases k<;>simp [memT,nT]
 | .eps=>by cases k<;>simp [memT,nT]
 | .chain a b=>by cases k<;>simp [memT,nT]
 | .star a=>by cases k<;>simp [memT,nT]
 | .not a=>by cases k<;>simp [memT,nT]
 | .aT k' a b=>by
  have ih:=K4 k w b
  rw [memT]
  by_cases h:k'=k
  ·subst h
   rw [if_pos rfl,m_,<-ih]
   exact Iff.rfl
  ·rw [if_neg h]
   cases k<;>simp [nT]
theorem G9 (k:Bool) (w:List Int):∀ l:List Tm,l≠[]->(wd (gM k l) w↔nT k l w)
 | [],h=>absurd rfl h
 | [a],_=>by cases k<;>simp [gM,nT]
 | a::b::r,_=>by
  rw [show gM k (a::b::r)=.aT k a (gM k (b::r)) from rfl,m_,<-G9 k w (b::r) (by simp)]
  exact Iff.rfl
def fZ:Tm->Prop
 | .set l=>Tidy l
 | .eps=>True
 | .chain a b=>fZ a/\fZ b
 | .star a=>fZ a
 | .not a=>fZ a
 | .aT _ a b=>fZ a/\fZ b
theorem Sg:fZ aH:=trivial
theorem vo:∀ (a b:Tm),fZ a->fZ b->fZ (au a b)
 | a,b,ha,hb=>by
  rw [jW]
  split
  ·exact Sg
  split
  ·exact hb
  split
  ·exact ha
  cases a with
  | chain x y=>exact vo x _ ha.1 (vo y b ha.2 hb)
  | set l=>exact ⟨ha,hb⟩
  | eps=>exact ⟨ha,hb⟩
  | star a=>exact ⟨ha,hb⟩
  | not a=>exact ⟨ha,hb⟩
  | aT k x y=>exact ⟨ha,hb⟩
 termination_by a=>a
theorem abl {a:Tm} (h:fZ a):fZ (jF a):=by cases a<;>exact h
theorem M8 (k:Bool):∀ {t:Tm},fZ t->∀ m∈memT k t,fZ m
 | .set l,h=>by simpa [memT] using h
 | .eps,h=>by simpa [memT] using h
 | .chain a b,h=>by simpa [memT] using h
 | .star a,h=>by simpa [memT] using h
 | .not a,h=>by simpa [memT] using h
 | .aT k' a b,h=>by
  rw [memT]
  split
  ·intro m hm
   rcases List.mem_cons.1 hm with rfl | hm
   ·exact h.1
   ·exact M8 k h.2 m hm
  ·intro m hm;simp at hm;subst hm;exact h
theorem Si (k:Bool):∀ {l:List Tm},(∀ t∈l,fZ t)->fZ (gM k l)
 | [],_=>Sg
 | [a],h=>h a (List.mem_cons_self ..)
 | a::b::r,h=>⟨h a (List.mem_cons_self ..),Si k (l:=b::r) fun t ht=>h t (List.mem_cons_of_mem _ ht)⟩
theorem G_ (k:Bool) {a b:ah} (ha:Tidy a) (hb:Tidy b):Tidy (gK k a b):=by
 unfold gK;split
 ·exact wS ha.pos hb.pos
 ·exact jf ha.pos hb.pos
theorem Ab (k:Bool):∀ (r:List ah) (s:ah),Tidy s->(∀ x∈r,Tidy x)->Tidy (r.foldl (gK k) s)
 | [],_,h,_=>h
 | x::r,s,h,hr=>Ab k r (gK k s x) (G_ k h (hr x (List.mem_cons_self ..))) fun y hy=>hr y (List.mem_cons_of_mem _ hy)
theorem ng {k:Bool} {l:List ah} {s:ah} (h:fK k l=some s) (hl:∀ x∈l,Tidy x):Tidy s:=by
 cases l with
 | nil=>simp [fK] at h
 | cons x r=>
  simp only [fK,Option.some.injEq] at h
  subst h
  exact Ab k r x (hl x (List.mem_cons_self ..)) fun y hy=>hl y (List.mem_cons_of_mem _ hy)
theorem tu {t:Tm}:∀ {l m:List Tm},t∈l.foldl (fun l t=>oO Rl t l) m↔t∈l\/t∈m
 | [],m=>by simp
 | x::l,m=>by
  rw [List.foldl_cons,tu,si]
  simp only [List.mem_cons]
  constructor
  ·rintro (h | h | h)<;>simp [h]
  ·rintro ((h | h) | h)<;>simp [h]
theorem qP {f:List Tm} {t:Tm}:t∈outs f↔t∈f/\aP t=Option.none:=by
 rw [outs,tu,y_];simp
theorem bW {f:List Tm} {s:ah}:s∈f.filterMap aP↔Tm.set s∈f:=by
 rw [List.mem_filterMap]
 constructor
 ·rintro ⟨t,ht,h⟩
  cases t<;>simp [aP] at h
  subst h;exact ht
 ·intro h;exact ⟨_,h,rfl⟩
theorem aM {k:Bool} {f:List Tm} {t:Tm}:t∈aV k f↔(t∈f/\aP t=Option.none)\/∃ s,fK k (f.filterMap aP)=some s/\t=.set s:=by
 unfold aV
 split
 ·rename_i h;simp [qP,h]
 ·rename_i s h
  rw [si,qP,h]
  constructor
  ·rintro (rfl | h)
   ·exact .inr ⟨s,rfl,rfl⟩
   ·exact .inl h
  ·rintro (h | ⟨s',h1,rfl⟩)
   ·exact .inr h
   ·cases h1;exact .inl rfl
theorem abm {k:Bool} {l:List Tm} (h:∀ t∈l,fZ t):fZ (oG k l):=by
 unfold oG
 split
 ·cases k<;>trivial
 ·split
  ·cases k<;>trivial
  ·rename_i m hm _
   refine Si k fun t ht=>h t ?_
   exact (List.mem_filter.1 ht).1
theorem M9 {k:Bool} {l:List Tm} (h:∀ t∈l,fZ t):fZ (aj k l):=by
 have hf:∀ t∈l.flatMap (memT k),fZ t:=by
  intro t ht
  obtain ⟨x,hx,hm⟩:=List.mem_flatMap.1 ht
  exact M8 k (h x hx) t hm
 refine abm fun t ht=>?_
 rcases aM.1 ht with ⟨h1,_⟩ | ⟨s,h1,rfl⟩
 ·exact hf t h1
 ·exact ng h1 fun x hx=>hf _ (bW.1 hx)
theorem tC (c:Int):∀ {t:Tm},fZ t->fZ (aG c t)/\∀ k,∀ m∈memT k t,fZ (aG c m)
 | .set l,_=>by
  have h0:fZ (aG c (.set l)):=by rw [g_];split<;>trivial
  exact ⟨h0,fun k m hm=>by simp [memT] at hm;subst hm;exact h0⟩
 | .eps,_=>⟨trivial,fun k m hm=>by simp [memT] at hm;subst hm;trivial⟩
 | .chain a b,h=>by
  have h0:fZ (aG c (.chain a b)):=by
   have ha:=vo _ b (tC c h.1).1 h.2
   rw [eF];split
   ·refine M9 fun t ht=>?_
    simp at ht
    rcases ht with rfl | rfl
    ·exact ha
    ·exact (tC c h.2).1
   ·exact ha
  exact ⟨h0,fun k m hm=>by simp [memT] at hm;subst hm;exact h0⟩
 | .star a,h=>by
  have h0:fZ (aG c (.star a)):=vo _ _ (tC c (t:=a) h).1 h
  exact ⟨h0,fun k m hm=>by simp [memT] at hm;subst hm;exact h0⟩
 | .not a,h=>by
  have h0:fZ (aG c (.not a)):=abl (tC c (t:=a) h).1
  exact ⟨h0,fun k m hm=>by simp [memT] at hm;subst hm;exact h0⟩
 | .aT k' a b,h=>by
  have ha:=(tC c h.1).1
  have hb:=(tC c h.2).2
  have hall:∀ m∈memT k' (.aT k' a b),fZ (aG c m):=by
   intro m hm
   rw [memT,if_pos rfl] at hm
   rcases List.mem_cons.1 hm with rfl | hm
   ·exact ha
   ·exact hb k' m hm
  have h0:fZ (aG c (.aT k' a b)):=by
   rw [lM]
   refine M9 fun t ht=>?_
   obtain ⟨m,hm,rfl⟩:=List.mem_map.1 ht
   exact hall m hm
  refine ⟨h0,fun k m hm=>?_⟩
  by_cases e:k'=k
  ·subst e;exact hall m hm
  ·rw [memT,if_neg e] at hm
   simp at hm;subst hm;exact h0
theorem PH (k:Bool) {a b:ah} (ha:Tidy a) (hb:Tidy b) {w:List Int} (hw:fB w) :
  wd (.set (gK k a b)) w↔if k=true then wd (.set a) w/\wd (.set b) w else wd (.set a) w\/wd (.set b) w:=by
 cases k
 ·simp only [gK,Bool.false_eq_true,if_false]
  constructor
  ·rintro ⟨c,rfl,h⟩
   rw [n_ ha.pos hb.pos (hw c (by simp)),Bool.or_eq_true] at h
   exact h.imp (fun h=>⟨c,rfl,h⟩) (fun h=>⟨c,rfl,h⟩)
  ·rintro (⟨c,rfl,h⟩ | ⟨c,rfl,h⟩)
   ·exact ⟨c,rfl,by rw [n_ ha.pos hb.pos (hw c (by simp)),h];rfl⟩
   ·exact ⟨c,rfl,by rw [n_ ha.pos hb.pos (hw c (by simp)),h];simp⟩
 ·simp only [gK,if_true]
  constructor
  ·rintro ⟨c,rfl,h⟩
   rw [u_ ha.pos hb.pos (hw c (by simp)),Bool.and_eq_true] at h
   exact ⟨⟨c,rfl,h.1⟩,⟨c,rfl,h.2⟩⟩
  ·rintro ⟨⟨c,rfl,h⟩,⟨d,hd,h2⟩⟩
   cases hd
   exact ⟨c,rfl,by rw [u_ ha.pos hb.pos (hw c (by simp)),h,h2];rfl⟩
theorem Ac (k:Bool) {w:List Int} (hw:fB w):∀ (r:List ah) (s:ah),Tidy s->(∀ x∈r,Tidy x) ->
  (wd (.set (r.foldl (gK k) s)) w↔nT k ((s::r).map Tm.set) w)
 | [],s,_,_=>by cases k<;>simp [nT]
 | x::r,s,h,hr=>by
  have hx:=hr x (List.mem_cons_self ..)
  rw [List.foldl_cons,Ac k hw r _ (G_ k h hx) (fun y hy=>hr y (List.mem_cons_of_mem _ hy)),List.map_cons,m_,PH k h hx hw,List.map_cons,List.map_cons,m_,m_]
  cases k
  ·simp [or_assoc]
  ·simp [and_assoc]
theorem WQ {k:Bool} {l:List Tm} {w:List Int}:wd (oG k l) w↔nT k l w:=by
 unfold oG
 by_cases hz:eu k∈l
 ·rw [if_pos hz]
  cases k
  ·exact ⟨fun _=>⟨_,hz,vk⟩,fun _=>vk⟩
  ·exact ⟨fun h=>absurd h ku,fun h=>absurd (h _ hz) ku⟩
 ·rw [if_neg hz]
  have hfil:nT k (l.filter (fun t=>decide (t≠bE k))) w↔nT k l w:=by
   cases k
   ·simp only [nT,Bool.false_eq_true,if_false,List.mem_filter]
    constructor
    ·rintro ⟨t,⟨h,_⟩,ht⟩;exact ⟨t,h,ht⟩
    ·rintro ⟨t,h,ht⟩
     refine ⟨t,⟨h,?_⟩,ht⟩
     have:t≠bE false:=by rintro rfl;exact ku ht
     simpa using this
   ·simp only [nT,if_true,List.mem_filter]
    constructor
    ·intro h t ht
     by_cases e:t=bE true
     ·rw [e];exact vk
     ·exact h t ⟨ht,by simpa using e⟩
    ·intro h t ht;exact h t ht.1
  split
  ·rename_i he
   rw [<-hfil,he]
   cases k
   ·exact ⟨fun h=>absurd h ku,fun ⟨_,h,_⟩=>by simp at h⟩
   ·exact ⟨fun _ t h=>by simp at h,fun _=>vk⟩
  ·rename_i hne
   rw [<-hfil]
   exact G9 k w _ hne
theorem o7 {k:Bool} {l:List Tm} (hl:∀ t∈l,fZ t) {w:List Int} (hw:fB w):wd (aj k l) w↔nT k l w:=by
 rw [aj,WQ]
 have qp:nT k (l.flatMap (memT k)) w↔nT k l w:=by
  clear hl
  induction l with
  | nil=>simp
  | cons t l ih=>rw [List.flatMap_cons,Aa,m_,ih,<-K4]
 rw [<-qp]
 have hf:∀ t∈l.flatMap (memT k),fZ t:=by
  intro t ht
  obtain ⟨x,hx,hm⟩:=List.mem_flatMap.1 ht
  exact M8 k (hl x hx) t hm
 generalize hff:l.flatMap (memT k)=f at *
 clear qp hff
 cases hs:fK k (f.filterMap aP) with
 | none=>
  have hno:f.filterMap aP=[]:=by
   cases h:f.filterMap aP with
   | nil=>rfl
   | cons s r=>rw [h] at hs;simp [fK] at hs
  refine Ff (fun t=>?_) w
  rw [aM,hs]
  simp only [reduceCtorEq,false_and,exists_false,or_false]
  refine ⟨fun h=>h.1,fun h=>⟨h,?_⟩⟩
  cases ht:aP t with
  | none=>rfl
  | some s=>
   cases t<;>simp [aP] at ht
   subst ht
   have:=bW.2 h
   rw [hno] at this
   simp at this
 | some s=>
  have abn:wd (.set s) w↔nT k ((f.filterMap aP).map Tm.set) w:=by
   cases hq:f.filterMap aP with
   | nil=>rw [hq] at hs;simp [fK] at hs
   | cons x r=>
    rw [hq] at hs
    simp only [fK,Option.some.injEq] at hs
    subst hs
    have hall:∀ y∈x::r,Tidy y:=fun y hy=>hf (.set y) (bW.1 (hq▸hy))
    exact Ac k hw r x (hall x (List.mem_cons_self ..)) fun y hy=>hall y (List.mem_cons_of_mem _ hy)
  have e1:nT k (aV k f) w↔nT k (.set s::outs f) w:=by
   refine Ff (fun t=>?_) w
   rw [aM,hs,List.mem_cons,qP]
   constructor
   ·rintro (h | ⟨s',h1,rfl⟩)
    ·exact .inr h
    ·cases h1;exact .inl rfl
   ·rintro (rfl | h)
    ·exact .inr ⟨s,rfl,rfl⟩
    ·exact .inl h
  have e2:nT k f w↔nT k ((f.filterMap aP).map Tm.set++outs f) w:=by
   refine Ff (fun t=>?_) w
   rw [List.mem_append,qP,List.mem_map]
   constructor
   ·intro h
    cases ht:aP t with
    | none=>exact .inr ⟨h,rfl⟩
    | some s'=>
     cases t<;>simp [aP] at ht
     subst ht
     exact .inl ⟨_,bW.2 h,rfl⟩
   ·rintro (⟨x,hx,rfl⟩ | h)
    ·exact bW.1 hx
    ·exact h.1
  rw [e1,e2,m_,Aa,abn]
theorem gU:∀ t:Tm,cO t=true↔wd t []
 | .set l=>by simp [cO,wd]
 | .eps=>by simp [cO,wd]
 | .chain a b=>by
  simp only [cO,wd,Bool.and_eq_true,gU a,gU b]
  constructor
  ·rintro ⟨h1,h2⟩;exact ⟨[],[],rfl,h1,h2⟩
  ·rintro ⟨u,v,h,h1,h2⟩
   have:=List.append_eq_nil_iff.1 h.symm
   rw [this.1] at h1;rw [this.2] at h2;exact ⟨h1,h2⟩
 | .star a=>by simp only [cO,wd,true_iff];exact .nil
 | .not a=>by simp [cO,wd,<-gU a]
 | .aT k a b=>by
  cases k
  ·simp [cO,wd,gU a,gU b]
  ·simp [cO,wd,gU a,gU b]
theorem PI {P:List Int->Prop} {c:Int} {w:List Int}:Star P (c::w)↔∃ u v,w=u++v/\P (c::u)/\Star P v:=by
 constructor
 ·intro h
  generalize he:c::w=z at h
  induction h with
  | nil=>cases he
  | more hp hs ih=>
   rename_i u v
   cases u with
   | nil=>exact ih (by simpa using he)
   | cons d u=>
    simp only [List.cons_append,List.cons.injEq] at he
    obtain ⟨rfl,rfl⟩:=he
    exact ⟨u,v,rfl,hp,hs⟩
 ·rintro ⟨u,v,rfl,hp,hs⟩
  exact Star.more (u:=c::u) hp hs
theorem pU {c:Int} (hc:aC c=true):∀ {t:Tm},fZ t->∀ {w:List Int},fB w->((wd (aG c t) w↔wd t (c::w))/\∀ k,∀ m∈memT k t,(wd (aG c m) w↔wd m (c::w)))
 | .set l,_,w,_=>by
  have h0:wd (aG c (.set l)) w↔wd (.set l) (c::w):=by
   rw [g_]
   by_cases h:dn l c=true
   ·rw [if_pos h]
    constructor
    ·intro hw'
     have hw'':w=[]:=hw'
     subst hw'';exact ⟨c,rfl,h⟩
    ·rintro ⟨d,hd,_⟩
     show w=[]
     simp at hd;exact hd.2
   ·rw [if_neg h]
    constructor
    ·intro h2;exact absurd h2 ku
    ·rintro ⟨d,hd,h2⟩
     simp at hd
     rw [hd.1] at h;exact absurd h2 h
  exact ⟨h0,fun k m hm=>by simp [memT] at hm;subst hm;exact h0⟩
 | .eps,_,w,_=>by
  have h0:wd (aG c eps) w↔wd eps (c::w):=⟨fun h=>absurd h ku,fun h=>by simp [wd] at h⟩
  exact ⟨h0,fun k m hm=>by simp [memT] at hm;subst hm;exact h0⟩
 | .chain a b,h,w,hw=>by
  have first:(∃ u v,w=u++v/\wd (aG c a) u/\wd b v)↔∃ u v,w=u++v/\wd a (c::u)/\wd b v:=by
   constructor
   ·rintro ⟨u,v,rfl,h1,h2⟩;exact ⟨u,v,rfl,(pU hc h.1 hw.left).1.1 h1,h2⟩
   ·rintro ⟨u,v,rfl,h1,h2⟩;exact ⟨u,v,rfl,(pU hc h.1 hw.left).1.2 h1,h2⟩
  have split':wd (.chain a b) (c::w)↔(∃ u v,w=u++v/\wd a (c::u)/\wd b v)\/(wd a []/\wd b (c::w)):=by
   constructor
   ·rintro ⟨u,v,he,h1,h2⟩
    cases u with
    | nil=>simp at he;subst he;exact .inr ⟨h1,h2⟩
    | cons d u=>
     simp only [List.cons_append,List.cons.injEq] at he
     obtain ⟨rfl,rfl⟩:=he
     exact .inl ⟨u,v,rfl,h1,h2⟩
   ·rintro (⟨u,v,rfl,h1,h2⟩ | ⟨h1,h2⟩)
    ·exact ⟨c::u,v,rfl,h1,h2⟩
    ·exact ⟨[],c::w,rfl,h1,h2⟩
  have h0:wd (aG c (.chain a b)) w↔wd (.chain a b) (c::w):=by
   rw [eF,split']
   by_cases hn:cO a=true
   ·rw [if_pos hn,o7 (by
     intro t ht
     simp at ht
     rcases ht with rfl | rfl
     ·exact vo _ b (tC c h.1).1 h.2
     ·exact (tC c h.2).1) hw]
    simp only [nT,Bool.false_eq_true,if_false,List.mem_cons,List.not_mem_nil,or_false,exists_eq_or_imp,exists_eq_left]
    rw [mM,first,(pU hc h.2 hw).1]
    simp [(gU a).1 hn]
   ·rw [if_neg hn,mM,first]
    have:¬ wd a []:=fun h=>hn ((gU a).2 h)
    simp [this]
  exact ⟨h0,fun k m hm=>by simp [memT] at hm;subst hm;exact h0⟩
 | .star a,h,w,hw=>by
  have h0:wd (aG c (.star a)) w↔wd (.star a) (c::w):=by
   rw [o6,mM]
   show _↔Star (wd a) (c::w)
   rw [PI]
   constructor
   ·rintro ⟨u,v,rfl,h1,h2⟩;exact ⟨u,v,rfl,(pU hc (t:=a) h hw.left).1.1 h1,h2⟩
   ·rintro ⟨u,v,rfl,h1,h2⟩;exact ⟨u,v,rfl,(pU hc (t:=a) h hw.left).1.2 h1,h2⟩
  exact ⟨h0,fun k m hm=>by simp [memT] at hm;subst hm;exact h0⟩
 | .not a,h,w,hw=>by
  have h0:wd (aG c (.not a)) w↔wd (.not a) (c::w):=by
   rw [qO,M7,(pU hc (t:=a) h hw).1];exact Iff.rfl
  exact ⟨h0,fun k m hm=>by simp [memT] at hm;subst hm;exact h0⟩
 | .aT k' a b,h,w,hw=>by
  have ha:=(pU hc h.1 hw).1
  have hb:=(pU hc h.2 hw).2
  have hall:∀ m∈memT k' (.aT k' a b),(wd (aG c m) w↔wd m (c::w)):=by
   intro m hm
   rw [memT,if_pos rfl] at hm
   rcases List.mem_cons.1 hm with rfl | hm
   ·exact ha
   ·exact hb k' m hm
  have h0:wd (aG c (.aT k' a b)) w↔wd (.aT k' a b) (c::w):=by
   rw [lM,o7 (by
    intro t ht
    obtain ⟨m,hm,rfl⟩:=List.mem_map.1 ht
    exact (tC c (t:=.aT k' a b) h).2 k' m hm) hw,K4 k' (c::w) (.aT k' a b)]
   generalize memT k' (.aT k' a b)=l at hall
   cases k'
   ·simp only [nT,Bool.false_eq_true,if_false,List.mem_map]
    constructor
    ·rintro ⟨t,⟨m,hm,rfl⟩,ht⟩;exact ⟨m,hm,(hall m hm).1 ht⟩
    ·rintro ⟨m,hm,ht⟩;exact ⟨_,⟨m,hm,rfl⟩,(hall m hm).2 ht⟩
   ·simp only [nT,if_true,List.mem_map]
    constructor
    ·intro hh m hm;exact (hall m hm).1 (hh _ ⟨m,hm,rfl⟩)
    ·rintro hh t ⟨m,hm,rfl⟩;exact (hall m hm).2 (hh m hm)
  refine ⟨h0,fun k m hm=>?_⟩
  by_cases e:k'=k
  ·subst e;exact hall m hm
  ·rw [memT,if_neg e] at hm
   simp at hm;subst hm;exact h0
def aO (t:Tm) (w:List Int):Tm:=w.foldl (fun t c=>aG c t) t
theorem M_:∀ (w:List Int) {t:Tm},fZ t->fB w->(cO (aO t w)=true↔wd t w)
 | [],t,_,_=>gU t
 | c::w,t,h,hw=>by
  have hc:=hw c (List.mem_cons_self ..)
  have hw':fB w:=fun d hd=>hw d (List.mem_cons_of_mem _ hd)
  show cO (aO (aG c t) w)=true↔_
  rw [M_ w (tC c h).1 hw',(pU hc h hw').1]
end Go.Proofs.YtfolanohokflkaaGreatDoor
namespace Go.Proofs.YtfolanohokflkaaGreatDoor
open Tm (eps)
def Sj (c:UInt8):Nat:=if 97<=c.toNat then c.toNat - 87 else c.toNat - 48
def qQ (c:UInt8):Prop:=(48<=c.toNat/\c.toNat<=57)\/(97<=c.toNat/\c.toNat<=102)
theorem Sk {d:Nat} (h:d<16):qQ (G6 d):=by
 unfold qQ G6
 split
 ·rw [UInt8.toNat_ofNat_of_lt' (by show _<256;omega)];omega
 ·rw [UInt8.toNat_ofNat_of_lt' (by show _<256;omega)];omega
theorem Sl {d:Nat} (h:d<16):Sj (G6 d)=d:=by
 unfold Sj G6
 split
 ·rw [UInt8.toNat_ofNat_of_lt' (by show _<256;omega),if_neg (by omega)];omega
 ·rw [UInt8.toNat_ofNat_of_lt' (by show _<256;omega),if_pos (by omega)];omega
def Ad (v:Nat) (l:List UInt8):Nat:=l.foldl (fun n c=>16*n+Sj c) v
theorem Ha:∀ (f n:Nat) (acc:List UInt8),n<f->Ad 0 (Fe f n acc)=Ad n acc
 | 0,_,_,h=>absurd h (Nat.not_lt_zero _)
 | f+1,n,acc,h=>by
  have hd:=Sl (d:=n % 16) (Nat.mod_lt _ (by omega))
  rw [Fe]
  split
  ·show Ad (16*0+Sj (G6 (n % 16))) acc=_
   rw [hd];congr 1;omega
  ·rw [Ha f (n / 16) _ (by omega)]
   show Ad (16*(n / 16)+Sj (G6 (n % 16))) acc=_
   rw [hd];congr 1;omega
theorem Hd (n:Nat):Ad 0 (G7 n)=n:=Ha (n+1) n [] (Nat.lt_succ_self n)
theorem He:∀ (f n:Nat) (acc:List UInt8),(∀ c∈acc,qQ c)->∀ c∈Fe f n acc,qQ c
 | 0,_,_,h=>h
 | f+1,n,acc,h=>by
  have hd:=Sk (d:=n % 16) (Nat.mod_lt _ (by omega))
  rw [Fe]
  split
  ·intro c hc
   rcases List.mem_cons.1 hc with rfl | hc
   ·exact hd
   ·exact h c hc
  ·refine He f _ _ fun c hc=>?_
   rcases List.mem_cons.1 hc with rfl | hc
   ·exact hd
   ·exact h c hc
theorem Ae (n:Nat):∀ c∈G7 n,qQ c:=He _ _ _ (by simp)
theorem Na:∀ (f n:Nat) (acc:List UInt8),0<f\/acc≠[]->Fe f n acc≠[]
 | 0,_,acc,h=>by rw [Fe];exact h.resolve_left (by omega)
 | f+1,n,acc,_=>by
  rw [Fe]
  split
  ·simp
  ·exact Na f _ _ (.inr (by simp))
theorem Nb (n:Nat):G7 n≠[]:=Na _ _ _ (.inl (by omega))
theorem Hf {m n:Nat} (h:G7 m=G7 n):m=n:=by rw [<-Hd m,<-Hd n,h]
theorem Af {d:UInt8}:∀ {u v x y:List UInt8},d∉u->d∉v->u++d::x=v++d::y->u=v/\x=y
 | [],[],x,y,_,_,h=>by simpa using h
 | [],b::v,x,y,_,hv,h=>by
  simp only [List.nil_append,List.cons_append,List.cons.injEq] at h
  exact absurd (by rw [h.1];exact List.mem_cons_self ..) hv
 | a::u,[],x,y,hu,_,h=>by
  simp only [List.nil_append,List.cons_append,List.cons.injEq] at h
  exact absurd (by rw [<-h.1];exact List.mem_cons_self ..) hu
 | a::u,b::v,x,y,hu,hv,h=>by
  simp only [List.cons_append,List.cons.injEq] at h
  obtain ⟨e1,e2⟩:=Af (fun hm=>hu (List.mem_cons_of_mem _ hm)) (fun hm=>hv (List.mem_cons_of_mem _ hm)) h.2
  exact ⟨by rw [h.1,e1],e2⟩
theorem za {d:UInt8} {n:Nat} (h:d=45\/d=44\/d=93\/d=59):d∉G7 n:=by
 intro hm
 have:=Ae n d hm
 unfold qQ at this
 rcases h with rfl | rfl | rfl | rfl<;>simp at this
theorem Ag:∀ {a b:ah} {x y:List UInt8},Pos a->Pos b->mZ a++93::x=mZ b++93::y->a=b/\x=y
 | [],[],x,y,_,_,h=>by simpa [mZ] using h
 | [],q::b,x,y,_,_,h=>by
  exfalso
  rw [mZ,mZ] at h
  obtain ⟨c,r,hc⟩:=List.exists_cons_of_ne_nil (Nb q.1.toNat)
  have h1:=Ae q.1.toNat c (by rw [hc];exact List.mem_cons_self ..)
  rw [hc] at h
  simp only [List.nil_append,List.cons_append,List.cons.injEq] at h
  rw [<-h.1] at h1
  unfold qQ at h1;simp at h1
 | p::a,[],x,y,_,_,h=>by
  exfalso
  rw [mZ,mZ] at h
  obtain ⟨c,r,hc⟩:=List.exists_cons_of_ne_nil (Nb p.1.toNat)
  have h1:=Ae p.1.toNat c (by rw [hc];exact List.mem_cons_self ..)
  rw [hc] at h
  simp only [List.nil_append,List.cons_append,List.cons.injEq] at h
  rw [h.1] at h1
  unfold qQ at h1;simp at h1
 | p::a,q::b,x,y,ha,hb,h=>by
  rw [mZ,mZ] at h
  simp only [List.append_assoc,List.cons_append] at h
  obtain ⟨e1,h⟩:=Af (za (.inl rfl)) (za (.inl rfl)) h
  obtain ⟨e2,h⟩:=Af (za (.inr (.inl rfl))) (za (.inr (.inl rfl))) h
  obtain ⟨e3,e4⟩:=Ag (fun z hz=>ha z (List.mem_cons_of_mem _ hz)) (fun z hz=>hb z (List.mem_cons_of_mem _ hz)) h
  have ep:=Hf e1
  have eq:=Hf e2
  have p0:=ha p (List.mem_cons_self ..)
  have q0:=hb q (List.mem_cons_self ..)
  refine ⟨?_,e4⟩
  rw [e3,show p=q from Prod.ext (by omega) (by omega)]
theorem Sm {k k':Bool} (h:sign k=sign k'):k=k':=by cases k<;>cases k'<;>simp [sign] at h ⊢
theorem ky (k:Bool):sign k≠91/\sign k≠101/\sign k≠46/\sign k≠42/\sign k≠126/\sign k≠59:=by cases k<;>decide
theorem uq:∀ (m:Option Bool) (t:Tm),∃ c r,di m t=c::r/\c≠59
 | _,.set l=>⟨91,_,rfl,by decide⟩
 | _,.eps=>⟨101,_,rfl,by decide⟩
 | _,.chain a b=>⟨46,_,rfl,by decide⟩
 | _,.star a=>⟨42,_,rfl,by decide⟩
 | _,.not a=>⟨126,_,rfl,by decide⟩
 | m,.aT k a b=>by
  rw [di]
  split
  ·obtain ⟨c,r,h,hc⟩:=uq Option.none a
   exact ⟨c,r++di (some k) b,by rw [h];rfl,hc⟩
  ·exact ⟨sign k,_,rfl,(ky k).2.2.2.2.2⟩
def dE (k:Bool):Tm->Bool
 | .aT k' _ _=>k' != k
 | _=>true
theorem wX {k:Bool}:∀ {t:Tm},dE k t=true->di (some k) t=rend t
 | .set _,_=>rfl
 | .eps,_=>rfl
 | .chain _ _,_=>rfl
 | .star _,_=>rfl
 | .not _,_=>rfl
 | .aT k' a b,h=>by
  have:k'≠k:=by simpa [dE] using h
  rw [rend,di,di,if_neg (by simpa using fun e=>this e.symm),if_neg (by simp)]
theorem wY (k:Bool) (a b:Tm):di (some k) (.aT k a b)=rend a++di (some k) b:=by rw [di,if_pos rfl]
theorem ni (k:Bool) (a b:Tm):rend (.aT k a b)=sign k::(rend a++(di (some k) b++[59])):=by rw [rend,di,if_neg (by simp)]
theorem iU (k:Bool) (t:Tm):(∃ a b,t=.aT k a b)\/dE k t=true:=by
 cases t with
 | aT k' a b=>
  by_cases h:k'=k
  ·exact .inl ⟨a,b,by rw [h]⟩
  ·exact .inr (by simpa [dE] using h)
 | _=>exact .inr rfl
theorem iy {k:Bool} {a:Tm} (P:∀ (b:Tm) (x y:List UInt8),fZ b->rend a++x=rend b++y->a=b/\x=y)
  (Q:∀ a1 a2,a=.aT k a1 a2->(∀ (b:Tm) (x y:List UInt8),fZ b->rend a1++x=rend b++y->a1=b/\x=y)/\∀ (b:Tm) (x y:List UInt8),fZ b->di (some k) a2++59::x=di (some k) b++59::y->a2=b/\x=y)
  (b:Tm) (x y:List UInt8) (hb:fZ b) (h:di (some k) a++59::x=di (some k) b++59::y):a=b/\x=y:=by
 rcases iU k a with ⟨a1,a2,rfl⟩ | ha
 ·obtain ⟨P1,Q2⟩:=Q a1 a2 rfl
  rw [wY,List.append_assoc] at h
  rcases iU k b with ⟨b1,b2,rfl⟩ | hb'
  ·rw [wY,List.append_assoc] at h
   obtain ⟨e1,h⟩:=P1 b1 _ _ hb.1 h
   obtain ⟨e2,h⟩:=Q2 b2 _ _ hb.2 h
   exact ⟨by rw [e1,e2],h⟩
  ·rw [wX hb'] at h
   obtain ⟨e1,h⟩:=P1 b _ _ hb h
   obtain ⟨c,r,hc,hn⟩:=uq (some k) a2
   rw [hc] at h
   simp only [List.cons_append,List.cons.injEq] at h
   exact absurd h.1 hn
 ·rw [wX ha] at h
  rcases iU k b with ⟨b1,b2,rfl⟩ | hb'
  ·rw [wY,List.append_assoc] at h
   obtain ⟨e1,h⟩:=P b1 _ _ hb.1 h
   obtain ⟨c,r,hc,hn⟩:=uq (some k) b2
   rw [hc] at h
   simp only [List.cons_append,List.cons.injEq] at h
   exact absurd h.1.symm hn
  ·rw [wX hb'] at h
   obtain ⟨e1,h⟩:=P b _ _ hb h
   simp only [List.cons.injEq,true_and] at h
   exact ⟨e1,h⟩
theorem kY:∀ (a:Tm),fZ a->(∀ (b:Tm) (x y:List UInt8),fZ b->rend a++x=rend b++y->a=b/\x=y) /\
  ∀ k,∀ (b:Tm) (x y:List UInt8),fZ b->di (some k) a++59::x=di (some k) b++59::y->a=b/\x=y
 | .set l,ha=>by
  have P:∀ (b:Tm) (x y:List UInt8),fZ b->rend (.set l)++x=rend b++y->.set l=b/\x=y:=by
   intro b x y hb h
   cases b with
   | set m=>
    simp only [rend,di,List.cons_append,List.append_assoc,List.cons.injEq,true_and,List.nil_append] at h
    obtain ⟨e1,e2⟩:=Ag (eP.pos ha) (eP.pos hb) h
    exact ⟨by rw [e1],e2⟩
   | aT k c d=>rw [ni] at h;simp [rend,di] at h;exact absurd h.1.symm (ky k).1
   | _=>simp [rend,di] at h
  exact ⟨P,fun k=>iy P (fun _ _ h=>by cases h)⟩
 | .eps,ha=>by
  have P:∀ (b:Tm) (x y:List UInt8),fZ b->rend eps++x=rend b++y->eps=b/\x=y:=by
   intro b x y hb h
   cases b with
   | eps=>simp [rend,di] at h;exact ⟨rfl,h⟩
   | aT k c d=>rw [ni] at h;simp [rend,di] at h;exact absurd h.1.symm (ky k).2.1
   | _=>simp [rend,di] at h
  exact ⟨P,fun k=>iy P (fun _ _ h=>by cases h)⟩
 | .chain a1 a2,ha=>by
  have P1:=(kY a1 ha.1).1
  have P2:=(kY a2 ha.2).1
  have P:∀ (b:Tm) (x y:List UInt8),fZ b->rend (.chain a1 a2)++x=rend b++y->.chain a1 a2=b/\x=y:=by
   intro b x y hb h
   cases b with
   | chain b1 b2=>
    simp only [rend,di,List.cons_append,List.append_assoc,List.cons.injEq,true_and] at h
    obtain ⟨e1,h⟩:=P1 b1 _ _ hb.1 h
    obtain ⟨e2,h⟩:=P2 b2 _ _ hb.2 h
    exact ⟨by rw [e1,e2],h⟩
   | aT k c d=>rw [ni] at h;simp [rend,di] at h;exact absurd h.1.symm (ky k).2.2.1
   | _=>simp [rend,di] at h
  exact ⟨P,fun k=>iy P (fun _ _ h=>by cases h)⟩
 | .star a1,ha=>by
  have P1:=(kY a1 ha).1
  have P:∀ (b:Tm) (x y:List UInt8),fZ b->rend (.star a1)++x=rend b++y->.star a1=b/\x=y:=by
   intro b x y hb h
   cases b with
   | star b1=>
    simp only [rend,di,List.cons_append,List.cons.injEq,true_and] at h
    obtain ⟨e1,h⟩:=P1 b1 _ _ hb h
    exact ⟨by rw [e1],h⟩
   | aT k c d=>rw [ni] at h;simp [rend,di] at h;exact absurd h.1.symm (ky k).2.2.2.1
   | _=>simp [rend,di] at h
  exact ⟨P,fun k=>iy P (fun _ _ h=>by cases h)⟩
 | .not a1,ha=>by
  have P1:=(kY a1 ha).1
  have P:∀ (b:Tm) (x y:List UInt8),fZ b->rend (.not a1)++x=rend b++y->.not a1=b/\x=y:=by
   intro b x y hb h
   cases b with
   | not b1=>
    simp only [rend,di,List.cons_append,List.cons.injEq,true_and] at h
    obtain ⟨e1,h⟩:=P1 b1 _ _ hb h
    exact ⟨by rw [e1],h⟩
   | aT k c d=>rw [ni] at h;simp [rend,di] at h;exact absurd h.1.symm (ky k).2.2.2.2.1
   | _=>simp [rend,di] at h
  exact ⟨P,fun k=>iy P (fun _ _ h=>by cases h)⟩
 | .aT k a1 a2,ha=>by
  have P1:=(kY a1 ha.1).1
  have Q2:=(kY a2 ha.2).2
  have P:∀ (b:Tm) (x y:List UInt8),fZ b->rend (.aT k a1 a2)++x=rend b++y->.aT k a1 a2=b/\x=y:=by
   intro b x y hb h
   rw [ni] at h
   cases b with
   | aT k' b1 b2=>
    rw [ni] at h
    simp only [List.cons_append,List.append_assoc,List.cons.injEq,List.nil_append] at h
    have hk:=Sm h.1
    subst hk
    obtain ⟨e1,h⟩:=P1 b1 _ _ hb.1 h.2
    obtain ⟨e2,h⟩:=Q2 k b2 _ _ hb.2 h
    exact ⟨by rw [e1,e2],h⟩
   | set l=>simp [rend,di] at h;exact absurd h.1 (ky k).1
   | eps=>simp [rend,di] at h;exact absurd h.1 (ky k).2.1
   | chain c d=>simp [rend,di] at h;exact absurd h.1 (ky k).2.2.1
   | star c=>simp [rend,di] at h;exact absurd h.1 (ky k).2.2.2.1
   | not c=>simp [rend,di] at h;exact absurd h.1 (ky k).2.2.2.2.1
  exact ⟨P,fun k'=>iy P (fun c d h=>by
   cases h
   exact ⟨P1,Q2 k⟩)⟩
theorem Sn {a b:Tm} (ha:fZ a) (hb:fZ b) (h:rend a=rend b):a=b:=((kY a ha).1 b [] [] hb (by rw [h])).1
theorem Ah:∀ l:List UInt8,M6 l l=false
 | []=>rfl
 | x::r=>by rw [M6,if_pos rfl,Ah r]
theorem Dt:∀ a b c:List UInt8,M6 b a=true->M6 c b=true->M6 c a=true
 | _,[],_,h,_=>by simp [M6] at h
 | _,_::_,[],_,h=>by simp [M6] at h
 | [],_::_,_::_,_,_=>rfl
 | x::a,y::b,z::c,h1,h2=>by
  rw [M6] at h1 h2 ⊢
  by_cases e1:y=x
  ·by_cases e2:z=y
   ·rw [if_pos e1] at h1;rw [if_pos e2] at h2;rw [if_pos (e2.trans e1)]
    exact Dt a b c h1 h2
   ·rw [if_neg e2] at h2;rw [e1] at e2;rw [if_neg e2];rw [e1] at h2;exact h2
  ·rw [if_neg e1] at h1
   have h1':=of_decide_eq_true h1
   by_cases e2:z=y
   ·subst e2;rw [if_neg e1];exact h1
   ·rw [if_neg e2] at h2
    have h2':=of_decide_eq_true h2
    have:x<z:=UInt8.lt_trans h1' h2'
    rw [if_neg (by rintro rfl;exact absurd this (UInt8.lt_irrefl _))]
    exact decide_eq_true this
theorem Du:∀ a b:List UInt8,M6 a b=true\/M6 b a=true\/a=b
 | [],[]=>.inr (.inr rfl)
 | [],_::_=>.inr (.inl rfl)
 | _::_,[]=>.inl rfl
 | x::a,y::b=>by
  rw [M6,M6]
  by_cases e:x=y
  ·subst e
   rw [if_pos rfl,if_pos rfl]
   rcases Du a b with h | h | h
   ·exact .inl h
   ·exact .inr (.inl h)
   ·exact .inr (.inr (by rw [h]))
  ·rw [if_neg e,if_neg (fun h=>e h.symm)]
   rcases UInt8.lt_or_lt_of_ne e with h | h
   ·exact .inr (.inl (decide_eq_true h))
   ·exact .inl (decide_eq_true h)
theorem Ai (a:Tm):Rl a a=false:=Ah _
theorem Dv (a b c:Tm):Rl b a=true->Rl c b=true->Rl c a=true:=Dt _ _ _
theorem PK {a b:Tm} (ha:fZ a) (hb:fZ b):Rl a b=true\/Rl b a=true\/a=b:=by
 rcases Du (rend a) (rend b) with h | h | h
 ·exact .inl h
 ·exact .inr (.inl h)
 ·exact .inr (.inr (Sn ha hb h))
def qR (l:List Tm):Prop:=l.Pairwise (fun a b=>Rl b a=true)
theorem Hg {l m:List Tm} (hl:qR l) (hm:qR m) (h:∀ x,x∈l↔x∈m):l=m:=ug Ai Dv hl hm h
theorem vv {l:List Tm} (h:qR l) (hl:∀ t∈l,fZ t) {c:Tm} (hc:fZ c):qR (oO Rl c l):=by
 unfold oO
 split
 ·exact h
 ·rename_i hn
  refine qK Dv (fun x hx=>?_) h
  rcases PK (hl x hx) hc with h1 | h1 | h1
  ·exact .inl h1
  ·exact .inr h1
  ·subst h1;exact absurd (by simpa using hx) hn
theorem x_:∀ {f l:List Tm},qR l->(∀ t∈l,fZ t)->(∀ t∈f,fZ t)->qR (f.foldl (fun l t=>oO Rl t l) l)
 | [],_,h,_,_=>h
 | x::f,l,h,hl,hf=>by
  have hx:=hf x (List.mem_cons_self ..)
  refine x_ (f:=f) (vv h hl hx) (fun t ht=>?_) (fun t ht=>hf t (List.mem_cons_of_mem _ ht))
  rcases si.1 ht with rfl | ht
  ·exact hx
  ·exact hl t ht
theorem yc {f:List Tm} (hf:∀ t∈f,fZ t):qR (outs f):=by
 refine x_ (by simp [qR]) (by simp) fun t ht=>hf t ?_
 rw [y_] at ht
 exact (List.mem_filter.1 ht).1
theorem nk {k:Bool} {f:List Tm} (hf:∀ t∈f,fZ t):(∀ t∈aV k f,fZ t)/\qR (aV k f):=by
 have h1:∀ t∈aV k f,fZ t:=by
  intro t ht
  rcases aM.1 ht with h | ⟨s,hs,rfl⟩
  ·exact hf t h.1
  ·exact ng hs fun x hx=>hf (.set x) (bW.1 hx)
 refine ⟨h1,?_⟩
 unfold aV at h1 ⊢
 split
 ·exact yc hf
 ·rename_i s hs
  exact vv (yc hf) (fun t ht=>hf t (qP.1 ht).1) (ng hs fun x hx=>hf (.set x) (bW.1 hx))
end Go.Proofs.YtfolanohokflkaaGreatDoor
namespace Go.Proofs.YtfolanohokflkaaGreatDoor
open Tm (eps)
def oH:Tm->Bool
 | .star _=>true
 | _=>false
def Nc:Tm->Bool
 | .not _=>true
 | _=>false
def l9 (l:List Tm):Prop:=(l.filterMap aP).length<=1
def uu:Option Bool->Tm->Prop
 | m,.set l=>Tidy l/\(m≠Option.none->l≠[])
 | _,.eps=>True
 | _,.chain a b=>uu .none a/\uu .none b/\bI a=false/\a≠aH/\a≠eps/\b≠aH/\b≠eps
 | _,.star a=>uu .none a/\a≠aH/\a≠eps/\oH a=false
 | m,.not a=>uu .none a/\Nc a=false/\(m≠Option.none->a≠aH)
 | _,.aT k a b=>uu .none a/\dE k a=true/\a≠aH/\a≠whole/\uu (some k) b/\qR (memT k (.aT k a b))/\l9 (memT k (.aT k a b))
abbrev Cn (t:Tm):Prop:=uu Option.none t
theorem uu.any {m:Option Bool}:∀ {t:Tm},uu m t->Cn t
 | .set _,h=>⟨h.1,fun e=>absurd rfl e⟩
 | .eps,_=>trivial
 | .chain _ _,h=>h
 | .star _,h=>h
 | .not _,h=>⟨h.1,h.2.1,fun e=>absurd rfl e⟩
 | .aT _ _ _,h=>h
theorem uu.ok:∀ {m:Option Bool} {t:Tm},uu m t->fZ t
 | _,.set _,h=>h.1
 | _,.eps,_=>trivial
 | _,.chain _ _,h=>⟨uu.ok h.1,uu.ok h.2.1⟩
 | _,.star a,h=>uu.ok (t:=a) h.1
 | _,.not a,h=>uu.ok (t:=a) h.1
 | _,.aT _ _ _,h=>⟨uu.ok h.1,uu.ok h.2.2.2.2.1⟩
def Sq (k:Bool) (m:Tm):Prop:=Cn m/\dE k m=true/\m≠aH/\m≠whole
theorem uu.void {k:Bool}:∀ {t:Tm},uu (some k) t->t≠aH/\t≠whole
 | .set l,h=>⟨by intro e;cases e;exact h.2 (by simp) rfl,by simp⟩
 | .eps,_=>⟨by simp,by simp⟩
 | .chain _ _,_=>⟨by simp,by simp⟩
 | .star _,_=>⟨by simp,by simp⟩
 | .not a,h=>⟨by simp,by intro e;cases e;exact h.2.2 (by simp) rfl⟩
 | .aT _ _ _,_=>⟨by simp,by simp⟩
theorem uu.rest {k:Bool} {t:Tm} (h:Cn t) (h1:t≠aH) (h2:t≠whole):uu (some k) t:=by
 cases t with
 | set l=>exact ⟨h.1,fun _ e=>h1 (by rw [e])⟩
 | eps=>trivial
 | chain a b=>exact h
 | star a=>exact h
 | not a=>exact ⟨h.1,h.2.1,fun _ e=>h2 (by rw [e])⟩
 | aT k a b=>exact h
theorem bq {k:Bool} {t:Tm} (h:dE k t=true):memT k t=[t]:=by
 cases t with
 | aT k' a b=>
  have:k'≠k:=by simpa [dE] using h
  rw [memT,if_neg this]
 | _=>rfl
theorem h_ (k:Bool) (a b:Tm):memT k (.aT k a b)=a::memT k b:=by rw [memT,if_pos rfl]
theorem uu.members {k:Bool}:∀ {t:Tm},uu (some k) t->∀ m∈memT k t,Sq k m
 | t,h=>by
  rcases iU k t with ⟨a,b,rfl⟩ | hn
  ·rw [h_]
   intro m hm
   rcases List.mem_cons.1 hm with rfl | hm
   ·exact ⟨h.1,h.2.1,h.2.2.1,h.2.2.2.1⟩
   ·exact uu.members (t:=b) h.2.2.2.2.1 m hm
  ·rw [bq hn]
   intro m hm
   simp at hm;subst hm
   exact ⟨h.any,hn,h.void.1,h.void.2⟩
 termination_by t=>t
theorem Cn.members {k:Bool} {t:Tm} (h:Cn t):∀ m∈memT k t,Cn m/\dE k m=true:=by
 rcases iU k t with ⟨a,b,rfl⟩ | hn
 ·intro m hm
  have:=uu.members (k:=k) (t:=.aT k a b) h m hm
  exact ⟨this.1,this.2.1⟩
 ·rw [bq hn]
  intro m hm
  simp at hm;subst hm
  exact ⟨h,hn⟩
theorem iV (k:Bool) (a:Tm) {l:List Tm} (h:l≠[]):gM k (a::l)=.aT k a (gM k l):=by
 cases l with
 | nil=>exact absurd rfl h
 | cons b r=>rfl
theorem nu (k:Bool):∀ {l:List Tm},l≠[]->(∀ m∈l,dE k m=true)->memT k (gM k l)=l
 | [],h,_=>absurd rfl h
 | [a],_,hm=>bq (hm a (List.mem_cons_self ..))
 | a::b::r,_,hm=>by
  rw [iV k a (by simp),h_,nu k (l:=b::r) (by simp) fun m h=>hm m (List.mem_cons_of_mem _ h)]
theorem vw (k:Bool) (t:Tm):memT k t≠[]:=by
 cases t with
 | aT k' a b=>rw [memT];split<;>simp
 | _=>simp [memT]
theorem Aj (k:Bool):∀ t:Tm,gM k (memT k t)=t
 | t=>by
  rcases iU k t with ⟨a,b,rfl⟩ | hn
  ·rw [h_,iV k a (vw k b),Aj k b]
  ·rw [bq hn];rfl
 termination_by t=>t
theorem Hl {a:Tm} {l:List Tm} (h:l9 (a::l)):l9 l:=by
 unfold l9 at *
 rw [List.filterMap_cons] at h
 split at h
 ·exact h
 ·rw [List.length_cons] at h;omega
theorem Nf {k:Bool}:∀ {l:List Tm},l≠[]->(∀ m∈l,Sq k m)->qR l->l9 l->uu (some k) (gM k l)
 | [],h,_,_,_=>absurd rfl h
 | [a],_,hm,_,_=>by
  have:=hm a (List.mem_cons_self ..)
  exact uu.rest this.1 this.2.2.1 this.2.2.2
 | a::b::r,_,hm,hs,ho=>by
  have ha:=hm a (List.mem_cons_self ..)
  have hm':∀ m∈b::r,Sq k m:=fun m h=>hm m (List.mem_cons_of_mem _ h)
  have ih:=Nf (l:=b::r) (by simp) hm' (List.pairwise_cons.1 hs).2 (Hl ho)
  have e:=nu k (l:=a::b::r) (by simp) fun m h=>(hm m h).2.1
  rw [iV k a (by simp)] at e ⊢
  exact ⟨ha.1,ha.2.1,ha.2.2.1,ha.2.2.2,ih,by rw [e];exact hs,by rw [e];exact ho⟩
theorem K5 (k:Bool):Cn (bE k):=by
 cases k
 ·exact ⟨trivial,fun e=>absurd rfl e⟩
 ·exact ⟨⟨trivial,fun e=>absurd rfl e⟩,rfl,fun e=>absurd rfl e⟩
theorem ZC (k:Bool):Cn (eu k):=by
 cases k
 ·exact ⟨⟨trivial,fun e=>absurd rfl e⟩,rfl,fun e=>absurd rfl e⟩
 ·exact ⟨trivial,fun e=>absurd rfl e⟩
theorem K6 {l:List Tm} (hn:l.Nodup) (h:∀ s s',Tm.set s∈l->Tm.set s'∈l->s=s'):l9 l:=by
 unfold l9
 induction l with
 | nil=>simp
 | cons a l ih=>
  have hn':=List.nodup_cons.1 hn
  have ih':=ih hn'.2 fun s s' h1 h2=>h s s' (List.mem_cons_of_mem _ h1) (List.mem_cons_of_mem _ h2)
  rw [List.filterMap_cons]
  cases hs:aP a with
  | none=>exact ih'
  | some s=>
   have ea:a=.set s:=by cases a<;>simp [aP] at hs;rw [hs]
   have:l.filterMap aP=[]:=by
    cases hq:l.filterMap aP with
    | nil=>rfl
    | cons s' r=>
     have h2:Tm.set s'∈l:=bW.1 (by rw [hq];exact List.mem_cons_self ..)
     have e:=h s s' (by rw [ea];exact List.mem_cons_self ..) (List.mem_cons_of_mem _ h2)
     subst e
     rw [ea] at hn'
     exact absurd h2 hn'.1
   simp [this]
theorem wZ {l:List Tm} (h:qR l):l.Nodup:=h.imp fun {a b} h e=>by
 subst e;rw [Ai] at h;exact absurd h (by simp)
theorem zb {l:List Tm} (h:qR l) (p:Tm->Bool):qR (l.filter p):=h.filter p
theorem lN {t:Tm} {s:ah} (h:aP t=some s):t=.set s:=by cases t<;>simp [aP] at h;rw [h]
theorem Fg {k:Bool} {f:List Tm} {s s':ah} (h:Tm.set s∈aV k f) (h':Tm.set s'∈aV k f):s=s':=by
 rcases aM.1 h with ⟨_,h1⟩ | ⟨x,hx,e⟩
 ·simp [aP] at h1
 ·rcases aM.1 h' with ⟨_,h1⟩ | ⟨y,hy,e'⟩
  ·simp [aP] at h1
  ·rw [hx] at hy;cases hy;cases e;cases e';rfl
theorem ZE {k:Bool} {l:List Tm} (hm:∀ m∈l,Cn m/\dE k m=true) (hs:qR l) (ho:∀ s s',Tm.set s∈l->Tm.set s'∈l->s=s'):Cn (oG k l):=by
 unfold oG
 split
 ·exact ZC k
 rename_i hz
 split
 ·exact K5 k
 ·rename_i hne
  refine (Nf hne (fun m h=>?_) (zb hs _) (K6 (wZ (zb hs _)) fun s s' h h'=>ho s s' (List.mem_filter.1 h).1 (List.mem_filter.1 h').1)).any
  have h':=List.mem_filter.1 h
  have hu:m≠bE k:=by simpa using h'.2
  have hzz:m≠eu k:=by rintro rfl;exact hz h'.1
  refine ⟨(hm m h'.1).1,(hm m h'.1).2,?_,?_⟩
  ·cases k
   ·exact hu
   ·exact hzz
  ·cases k
   ·exact hzz
   ·exact hu
theorem kz {k:Bool} {l:List Tm} (h:∀ t∈l,Cn t):Cn (aj k l):=by
 have hf:∀ m∈l.flatMap (memT k),Cn m/\dE k m=true:=by
  intro m hm
  obtain ⟨x,hx,hm⟩:=List.mem_flatMap.1 hm
  exact (h x hx).members m hm
 have hok:∀ m∈l.flatMap (memT k),fZ m:=fun m hm=>(hf m hm).1.ok
 refine ZE (fun m hm=>?_) (nk hok).2 (fun s s'=>Fg)
 rcases aM.1 hm with ⟨h1,_⟩ | ⟨s,hs,rfl⟩
 ·exact hf m h1
 ·exact ⟨⟨ng hs fun x hx=>(hf (.set x) (bW.1 hx)).1.1,fun e=>absurd rfl e⟩,rfl⟩
theorem eQ:∀ (a b:Tm),Cn a->Cn b->Cn (au a b)
 | a,b,ha,hb=>by
  rw [jW]
  split
  ·exact ⟨trivial,fun e=>absurd rfl e⟩
  rename_i h1
  split
  ·exact hb
  rename_i h2
  split
  ·exact ha
  rename_i h3
  have hv:a≠aH/\b≠aH:=⟨fun e=>h1 (.inl e),fun e=>h1 (.inr e)⟩
  cases a with
  | chain x y=>exact eQ x _ ha.1 (eQ y b ha.2.1 hb)
  | set l=>exact ⟨ha,hb,rfl,hv.1,h2,hv.2,h3⟩
  | eps=>exact absurd rfl h2
  | star a=>exact ⟨ha,hb,rfl,hv.1,h2,hv.2,h3⟩
  | not a=>exact ⟨ha,hb,rfl,hv.1,h2,hv.2,h3⟩
  | aT k x y=>exact ⟨ha,hb,rfl,hv.1,h2,hv.2,h3⟩
 termination_by a=>a
theorem Ng {a:Tm} (h:Cn a):Cn (gZ a):=by
 unfold gZ
 split
 ·trivial
 ·rename_i h1
  have h2:a≠aH/\a≠eps:=⟨fun e=>h1 (.inl e),fun e=>h1 (.inr e)⟩
  cases a with
  | star x=>exact h
  | set l=>exact ⟨h,h2.1,h2.2,rfl⟩
  | eps=>exact absurd rfl h2.2
  | chain x y=>exact ⟨h,h2.1,h2.2,rfl⟩
  | not x=>exact ⟨h,h2.1,h2.2,rfl⟩
  | aT k x y=>exact ⟨h,h2.1,h2.2,rfl⟩
theorem Sr {a:Tm} (h:Cn a):Cn (jF a):=by
 cases a with
 | not x=>exact h.1
 | set l=>exact ⟨h,rfl,fun e=>absurd rfl e⟩
 | eps=>exact ⟨h,rfl,fun e=>absurd rfl e⟩
 | chain x y=>exact ⟨h,rfl,fun e=>absurd rfl e⟩
 | star x=>exact ⟨h,rfl,fun e=>absurd rfl e⟩
 | aT k x y=>exact ⟨h,rfl,fun e=>absurd rfl e⟩
theorem ze:Cn aH:=K5 false
theorem ZF:Cn eps:=trivial
theorem fP (c:Int):∀ {m:Option Bool} {t:Tm},uu m t->Cn (aG c t)/\∀ k,m=some k->∀ x∈memT k t,Cn (aG c x)
 | m,.set l,h=>by
  have h0:Cn (aG c (.set l)):=by
   rw [g_];split
   ·trivial
   ·exact ze
  exact ⟨h0,fun k _ x hx=>by simp [memT] at hx;subst hx;exact h0⟩
 | m,.eps,_=>⟨ze,fun k _ x hx=>by simp [memT] at hx;subst hx;exact ze⟩
 | m,.chain a b,h=>by
  have ha:=eQ _ b (fP c h.1).1 h.2.1
  have hb:=(fP c h.2.1).1
  have h0:Cn (aG c (.chain a b)):=by
   rw [eF];split
   ·refine kz fun t ht=>?_
    simp at ht
    rcases ht with rfl | rfl
    ·exact ha
    ·exact hb
   ·exact ha
  exact ⟨h0,fun k _ x hx=>by simp [memT] at hx;subst hx;exact h0⟩
 | m,.star a,h=>by
  have h0:Cn (aG c (.star a)):=eQ _ _ (fP c (t:=a) h.1).1 h
  exact ⟨h0,fun k _ x hx=>by simp [memT] at hx;subst hx;exact h0⟩
 | m,.not a,h=>by
  have h0:Cn (aG c (.not a)):=Sr (fP c (t:=a) h.1).1
  exact ⟨h0,fun k _ x hx=>by simp [memT] at hx;subst hx;exact h0⟩
 | m,.aT k' a b,h=>by
  have ha:=(fP c h.1).1
  have hb:=(fP c h.2.2.2.2.1).2
  have hall:∀ x∈memT k' (.aT k' a b),Cn (aG c x):=by
   intro x hx
   rw [h_] at hx
   rcases List.mem_cons.1 hx with rfl | hx
   ·exact ha
   ·exact hb k' rfl x hx
  have h0:Cn (aG c (.aT k' a b)):=by
   rw [lM]
   refine kz fun t ht=>?_
   obtain ⟨x,hx,rfl⟩:=List.mem_map.1 ht
   exact hall x hx
  refine ⟨h0,fun k _ x hx=>?_⟩
  by_cases e:k'=k
  ·subst e;exact hall x hx
  ·rw [memT,if_neg e] at hx
   simp at hx;subst hx;exact h0
theorem fM:∀ (w:List Int) {t:Tm},Cn t->Cn (aO t w)
 | [],_,h=>h
 | c::w,t,h=>fM w (t:=aG c t) (fP c h).1
theorem PM {k:Bool} {l:List Tm} (hne:l≠[]) (h1:aH∉l) (h2:whole∉l):oG k l=gM k l:=by
 have hz:eu k∉l:=by cases k<;>assumption
 have hu:bE k∉l:=by cases k<;>assumption
 unfold oG
 rw [if_neg hz,List.filter_eq_self.2 (fun t ht=>by
  have:t≠bE k:=by rintro rfl;exact hu ht
  simpa using this)]
 cases l with
 | nil=>exact absurd rfl hne
 | cons a r=>rfl
theorem vz {k:Bool} {l:List Tm} (hok:∀ t∈l,fZ t) (hs:qR l) (ho:l9 l):aV k l=l:=by
 refine Hg (nk hok).2 hs fun t=>?_
 rw [aM]
 cases hq:l.filterMap aP with
 | nil=>
  simp only [fK,reduceCtorEq,false_and,exists_false,or_false]
  refine ⟨fun h=>h.1,fun h=>⟨h,?_⟩⟩
  cases hst:aP t with
  | none=>rfl
  | some s=>
   rw [lN hst] at h
   have:=bW.2 h
   rw [hq] at this;simp at this
 | cons s r=>
  have hr:r=[]:=by
   unfold l9 at ho;rw [hq] at ho;simp at ho;exact ho
  subst hr
  simp only [fK,List.foldl_nil,Option.some.injEq,exists_eq_left']
  have hmem:Tm.set s∈l:=bW.1 (by rw [hq];exact List.mem_cons_self ..)
  constructor
  ·rintro (h | rfl)
   ·exact h.1
   ·exact hmem
  ·intro h
   cases hst:aP t with
   | none=>exact .inl ⟨h,rfl⟩
   | some s'=>
    have e:=lN hst
    rw [e] at h
    have:=bW.2 h
    rw [hq] at this
    simp at this
    subst this
    exact .inr e
theorem group_one' {k:Bool} {t:Tm} (h:Cn t):aj k [t]=t:=by
 rw [aj,List.flatMap_cons,List.flatMap_nil,List.append_nil]
 rcases iU k t with ⟨a,b,rfl⟩ | hn
 ·have hm:=uu.members (k:=k) (t:=.aT k a b) h
  rw [vz (fun x hx=>(hm x hx).1.ok) h.2.2.2.2.2.1 h.2.2.2.2.2.2,PM (vw k _) (fun hv=>(hm _ hv).2.2.1 rfl) (fun hv=>(hm _ hv).2.2.2 rfl),Aj]
 ·rw [bq hn,vz (by simpa using h.ok) (by simp [qR]) (by unfold l9;exact Nat.le_trans (List.length_filterMap_le ..) (by simp))]
  unfold oG
  by_cases hz:t=eu k
  ·rw [if_pos (by simp [hz]),hz]
  ·rw [if_neg (by simpa using fun e=>hz e.symm)]
   by_cases hu:t=bE k
   ·rw [hu];simp
   ·simp [hu,gM]
end Go.Proofs.YtfolanohokflkaaGreatDoor
namespace Go.Proofs.YtfolanohokflkaaGreatDoor
open Tm (eps)
inductive Pt where
 | set (l:List (Int×Int))
 | row (l:List Pt)
 | aT (k:Bool) (l:List Pt)
 | not (a:Pt)
 | rep (a:Pt) (least:Nat) (most:Option Nat)
def kC (l:List Tm):Tm:=l.foldr au eps
def o8 (t:Tm):Tm:=aj false [eps,t]
def nX (t:Tm) (n:Nat):Option Nat->Tm
 | Option.none=>(List.replicate n t).foldr au (gZ t)
 | some m=>(List.replicate n t).foldr au (kC (List.replicate (m - n) (o8 t)))
mutual
def eH:Pt->Tm
 | .set l=>.set l
 | .row l=>kC (vB l)
 | .aT k l=>aj k (vB l)
 | .not a=>jF (eH a)
 | .rep a n m=>nX (eH a) n m
def vB:List Pt->List Tm
 | []=>[]
 | p::r=>eH p::vB r
end
theorem qU:∀ l:List Pt,vB l=l.map eH
 | []=>by rw [vB];rfl
 | p::r=>by rw [vB,qU r];rfl
mutual
def nU:Pt->Prop
 | .set l=>Tidy l
 | .row l=>yS l
 | .aT _ l=>yS l
 | .not a=>nU a
 | .rep a _ _=>nU a
def yS:List Pt->Prop
 | []=>True
 | p::r=>nU p/\yS r
end
theorem vC {l:List Tm} {t:Tm} (hl:∀ x∈l,Cn x) (ht:Cn t):Cn (l.foldr au t):=by
 induction l with
 | nil=>exact ht
 | cons x l ih=>exact eQ _ _ (hl x (List.mem_cons_self ..)) (ih fun y hy=>hl y (List.mem_cons_of_mem _ hy))
theorem Sv {t:Tm} (h:Cn t):Cn (o8 t):=kz fun x hx=>by
 simp at hx
 rcases hx with rfl | rfl
 ·trivial
 ·exact h
theorem ZG {t:Tm} (h:Cn t) (n:Nat) (m:Option Nat):Cn (nX t n m):=by
 have hr:∀ x∈List.replicate n t,Cn x:=fun x hx=>by rw [(List.mem_replicate.1 hx).2];exact h
 cases m with
 | none=>exact vC hr (Ng h)
 | some m=>exact vC hr (vC (fun x hx=>by rw [(List.mem_replicate.1 hx).2];exact Sv h) trivial)
mutual
theorem ny:∀ {p:Pt},nU p->Cn (eH p)
 | .set l,h=>by rw [nU] at h;rw [eH];exact ⟨h,fun e=>absurd rfl e⟩
 | .row l,h=>by rw [nU] at h;rw [eH];exact vC (Fh h) trivial
 | .aT k l,h=>by rw [nU] at h;rw [eH];exact kz (Fh h)
 | .not a,h=>by rw [nU] at h;rw [eH];exact Sr (ny h)
 | .rep a n m,h=>by rw [nU] at h;rw [eH];exact ZG (ny h) n m
theorem Fh:∀ {l:List Pt},yS l->∀ t∈vB l,Cn t
 | [],_=>by rw [vB];simp
 | p::r,h=>by
  rw [yS] at h
  rw [vB]
  have hp:=ny h.1
  have hr:=Fh h.2
  intro t ht
  rcases List.mem_cons.1 ht with rfl | ht
  ·exact hp
  ·exact hr t ht
end
end Go.Proofs.YtfolanohokflkaaGreatDoor
namespace Go.Proofs.YtfolanohokflkaaGreatDoor
abbrev Pn:=Pt×Int
abbrev iW:=Nat×Option Nat×Int
def fC (n:Nat) (m:iW) (l:List Sy):bf iW:=if hd l=125 then .ok (m,l.tail) else bad 2 n l
def gu (n:Nat) (l:List Sy):bf iW:=
 match bL n 0 l with
 | .error x=>.error x
 | .ok (a,l1)=>
  if hd l1=44 then
   (if hd l1.tail=125 then .ok ((a.toNat,none,a+1),l1.tail.tail)
    else match bL n a l1.tail with
     | .error x=>.error x
     | .ok (m,l2)=>fC n (a.toNat,some m.toNat,j5 m) l2)
  else fC n (a.toNat,some a.toNat,j5 a) l1
def dX (n:Nat) (l:List Sy):bf iW:=
 if hd l=123 then gu n l.tail
 else if hd l=42 then .ok ((0,none,2),l.tail)
 else if hd l=43 then .ok ((1,none,2),l.tail)
 else .ok ((0,some 1,2),l.tail)
def zg:ah:=[(48,57)]
def vD:ah:=[(48,57),(65,90),(95,95),(97,122)]
def iA (l:List Sy):ah:=if hd l.tail=100 then zg else vD
def jq (n:Nat) (l:List Sy):bf ah:=
 if isSet l=true then .ok (iA l,l.tail.tail)
 else match eD n l with
  | .error x=>.error x
  | .ok (a,l1)=>
   if hd l1=45 then (match eD n l1.tail with
    | .error x=>.error x
    | .ok (b,l2)=>if b<a then bad 3 n l2 else .ok ([(a,b)],l2))
   else .ok ([(a,a)],l1)
def bA (n:Nat):Nat->ah->List Sy->bf ah
 | 0,_,l=>bad 2 n l
 | f+1,s,l=>if hd l=93 then .ok (s,l.tail) else match jq n l with
  | .error x=>.error x
  | .ok (p,l1)=>bA n f (qA s p) l1
def Ak:bf ah->bf ah
 | .error x=>.error x
 | .ok (s,l)=>.ok (fI s,l)
def iB (n:Nat) (l:List Sy):bf ah:=
 if hd l=94 then Ak (bA n (l.length+1) [] l.tail) else bA n (l.length+1) [] l
def Fj:ah:=fI []
def PN:bf Int->bf ah
 | .error x=>.error x
 | .ok (c,l)=>.ok ([(c,c)],l)
def dV (n:Nat) (l:List Sy):bf ah:=
 if hd l=91 then iB n l.tail
 else if hd l=92 then (if isSet l=true then .ok (iA l,l.tail.tail) else PN (dD n l.tail))
 else if hd l=46 then .ok (Fj,l.tail)
 else if hd l<0\/l7 (hd l)=true then bad 2 n l
 else .ok ([(hd l,hd l)],l.tail)
def kN:bf ah->bf Pn
 | .error x=>.error x
 | .ok (s,l)=>.ok ((.set s,1),l)
def Hm (p:Pn) (o:iW):Pn:=(.rep p.1 o.1 o.2.1,dA (p.2*o.2.2))
def w_ (p:Pn):Pn:=(.not p.1,dA (p.2+1))
def iH (n:Nat):Nat->Pn->List Sy->bf Pn
 | 0,_,l=>bad 2 n l
 | f+1,z,l=>if jV (hd l)=true then (match dX n l with
   | .error x=>.error x
   | .ok (m,l1)=>iH n f (Hm z m) l1)
  else .ok (z,l)
def b_ (n:Nat) (atom:List Sy->bf Pn):Nat->List Sy->bf Pn
 | 0,l=>bad 2 n l
 | f+1,l=>if hd l=126 then (match b_ n atom f l.tail with
   | .error x=>.error x
   | .ok (z,l1)=>.ok (w_ z,l1))
  else match atom l with
   | .error x=>.error x
   | .ok (z,l1)=>iH n (l1.length+1) z l1
def dI:List Pn->Int
 | []=>0
 | p::r=>p.2+dI r
def ib (l:List Pn):Pn:=match l with
 | [p]=>p
 | l=>(.row (l.map Prod.fst),if l.length=0 then 1 else min (((l.length:Int) - 1)+dI l) 61)
def gB (k:Bool) (l:List Pn):Pn:=match l with
 | [p]=>p
 | l=>(.aT k (l.map Prod.fst),min (((l.length:Int) - 1)+dI l) 61)
def aW (n:Nat) (atom:List Sy->bf Pn):Nat->List Pn->List Sy->bf (List Pn)
 | 0,_,l=>bad 2 n l
 | f+1,z,l=>if eT (hd l)=true then .ok (z,l) else match b_ n atom (l.length+1) l with
  | .error x=>.error x
  | .ok (y,l1)=>aW n atom f (z++[y]) l1
def nY {a b:Type} (g:a->b):bf a->bf b
 | .error x=>.error x
 | .ok (v,l)=>.ok (g v,l)
def rowP (n:Nat) (atom:List Sy->bf Pn) (l:List Sy):bf Pn:=
 if eT (hd l)=true then .ok (ib [],l) else match b_ n atom (l.length+1) l with
  | .error x=>.error x
  | .ok (y,l1)=>nY ib (aW n atom (l1.length+1) [y] l1)
def aR (n:Nat) (sub:List Sy->bf Pn) (sign:Int):Nat->List Pn->List Sy->bf (List Pn)
 | 0,_,l=>bad 2 n l
 | f+1,z,l=>if hd l=sign then (match sub l.tail with
   | .error x=>.error x
   | .ok (y,l1)=>aR n sub sign f (z++[y]) l1)
  else .ok (z,l)
def kM (n:Nat) (sub:List Sy->bf Pn) (sign:Int) (g:List Pn->Pn) (l:List Sy):bf Pn:=
 match sub l with
 | .error x=>.error x
 | .ok (y,l1)=>nY g (aR n sub sign (l1.length+1) [y] l1)
def YO (n:Nat) (atom:List Sy->bf Pn):List Sy->bf Pn:=kM n (rowP n atom) 38 (gB true)
def bM (n:Nat) (atom:List Sy->bf Pn):List Sy->bf Pn:=kM n (YO n atom) 124 (gB false)
def CW (n:Nat):bf Pn->bf Pn
 | .error x=>.error x
 | .ok (z,l)=>if hd l=41 then .ok (z,l.tail) else bad 2 n l
def bF (n:Nat):Nat->List Sy->bf Pn
 | 0,l=>if hd l=40 then bad 4 n l else kN (dV n l)
 | k+1,l=>if hd l=40 then CW n (bM n (bF n k) l.tail) else kN (dV n l)
def nA (n:Nat):bf Pn->Except (Int×Int) Pt
 | .error x=>.error x
 | .ok (z,l)=>if hd l<0 then (if 60<z.2 then .error (5,0) else .ok z.1) else .error (2,zQ n l)
def bn (s:ByteArray):Except (Int×Int) Pt:=if 60<s.size then .error (1,0) else nA s.size (bM s.size (bF s.size 8) (af s 0))
def SA:Except (Int×Int) Pt->Int×Int
 | .error x=>x
 | .ok _=>(0,0)
theorem Al (s:ByteArray) (i:Nat):aC ((Utf8.decode s i).1:Int)=true:=by
 have h:=pK s i
 have e:((Utf8.decode s i).1:Int)=(zJ s i).1:=by rw [h]
 rw [e]
 have hend:∀ (size:Nat) (least:Int) (o:Option Int),aC (mU size least o).1=true:=by
  intro size least o
  cases o with
  | none=>rfl
  | some n=>
   rw [mU]
   split
   ·rfl
   ·split
    ·assumption
    ·rfl
 unfold zJ
 simp only []
 have g0:=(s.get! i).toNat_lt
 split
 ·rw [az];simp only [];omega
 ·repeat' split
  all_goals first | exact hend _ _ _ | rfl
def bu (l:List Sy):Prop:=∀ x∈l,aC (x.c:Int)=true
theorem bu.tail {l:List Sy} (h:bu l):bu l.tail:=fun x hx=>h x (List.mem_of_mem_tail hx)
theorem bu.hd {l:List Sy} (h:bu l) (h0:¬ hd l<0):aC (hd l)=true:=by
 cases l with
 | nil=>exact absurd (by decide) h0
 | cons x r=>exact h x (List.mem_cons_self ..)
theorem Am (s:ByteArray):∀ (f p:Nat),bu (jy s f p)
 | 0,_=>by intro x hx;simp [jy] at hx
 | f+1,p=>by
  rw [jy]
  split
  ·intro x hx
   rcases List.mem_cons.1 hx with rfl | hx
   ·exact Al s p
   ·exact Am s f _ x hx
  ·intro x hx;simp at hx
theorem kD (s:ByteArray) (p:Nat):bu (af s p):=Am s _ p
def Good {a:Type} (P:a->Prop) (r:bf a):Prop:=∀ v l,r=.ok (v,l)->P v/\bu l
theorem Good.bad {a:Type} {P:a->Prop} {e:Int} {n:Nat} {l:List Sy}:Good P (bad e n l):=fun _ _ h=>by simp [Go.Proofs.YtfolanohokflkaaGreatDoor.bad] at h
theorem Good.err {a:Type} {P:a->Prop} {x:Int×Int}:Good P (.error x:bf a):=fun _ _ h=>by cases h
theorem Good.ok {a:Type} {P:a->Prop} {v:a} {l:List Sy} (h:P v) (hl:bu l):Good P (.ok (v,l)):=fun _ _ e=>by cases e;exact ⟨h,hl⟩
theorem Good.map {a b:Type} {P:a->Prop} {Q:b->Prop} {g:a->b} {r:bf a} (h:Good P r) (hg:∀ v,P v->Q (g v)):Good Q (nY g r):=by
 cases r with
 | error x=>exact Good.err
 | ok y=>
  obtain ⟨v,l⟩:=y
  have:=h v l rfl
  exact Good.ok (hg v this.1) this.2
theorem yf {n:Nat} {least:Int} {l:List Sy} (h:bu l):Good (fun _=>True) (bL n least l):=by
 unfold bL
 split
 ·split
  ·exact Good.bad
  ·intro v l' e
   refine ⟨trivial,?_⟩
   simp only [Except.ok.injEq] at e
   have e2:(iL l).2=l':=by rw [e]
   rw [<-e2]
   unfold iL
   split
   ·exact h.tail.tail
   ·exact h.tail
 ·exact Good.bad
theorem Ao {n:Nat} {m:iW} {l:List Sy} (h:bu l):Good (fun _=>True) (fC n m l):=by
 unfold fC;split
 ·exact Good.ok trivial h.tail
 ·exact Good.bad
theorem Ho {n:Nat} {l:List Sy} (h:bu l):Good (fun _=>True) (gu n l):=by
 unfold gu
 have g:=yf (n:=n) (least:=0) h
 split
 ·exact Good.err
 ·rename_i a l1 e
  have h1:=(g _ _ e).2
  split
  ·split
   ·exact Good.ok trivial h1.tail.tail
   ·have g2:=yf (n:=n) (least:=a) h1.tail
    split
    ·exact Good.err
    ·rename_i m l2 e2
     exact Ao (g2 _ _ e2).2
  ·exact Ao h1
theorem oh {n:Nat} {l:List Sy} (h:bu l):Good (fun _=>True) (dX n l):=by
 unfold dX
 split
 ·exact Ho h.tail
 ·split
  ·exact Good.ok trivial h.tail
  ·split
   ·exact Good.ok trivial h.tail
   ·exact Good.ok trivial h.tail
abbrev WR (c:Int):Prop:=aC c=true
theorem Hq:∀ (f:Nat) (v:Int) (k:Nat) {l:List Sy},bu l->bu (mi f v k l).2.2
 | 0,_,_,_,h=>h
 | f+1,v,k,l,h=>by
  rw [mi];split
  ·exact Hq f _ _ h.tail
  ·exact h
theorem PO {n:Nat} {l:List Sy} (h:bu l):Good WR (ma n l):=by
 unfold ma
 split
 ·unfold kg
  split
  ·exact Good.bad
  ·split
   ·rename_i hs
    exact Good.ok hs (Hq 6 0 0 h.tail).tail
   ·exact Good.bad
 ·exact Good.bad
theorem WS {c:Int} (h:ql c=true):¬ c<0:=by
 unfold ql l7 at h
 simp at h;omega
theorem qV {n:Nat} {l:List Sy} (h:bu l):Good WR (dD n l):=by
 unfold dD
 split
 ·exact PO h.tail
 ·split
  ·exact Good.ok (by decide) h.tail
  ·split
   ·rename_i he
    exact Good.ok (h.hd (WS he)) h.tail
   ·exact Good.bad
theorem pV {n:Nat} {l:List Sy} (h:bu l):Good WR (eD n l):=by
 unfold eD
 split
 ·exact qV h.tail
 ·split
  ·exact Good.bad
  ·rename_i hn
   exact Good.ok (h.hd (fun e=>hn (.inl e))) h.tail
theorem Fp {c:Int} (h:aC c=true):0<=c:=(az.1 h).1
theorem Nh {a b:Int} (ha:aC a=true) (hb:aC b=true):Pos [(a,b)]:=fun x hx=>by simp at hx;subst hx;exact ⟨Fp ha,Fp hb⟩
theorem Ap {a:Int} (h:aC a=true):Tidy [(a,a)]:=⟨by show -1<a;have:=Fp h;omega,h,h,Int.le_refl _,trivial⟩
theorem vE (l:List Sy):Tidy (iA l):=by unfold iA;split<;>simp [zg,vD,Tidy,eP,aC,ko]
theorem Dw {n:Nat} {l:List Sy} (h:bu l):Good Pos (jq n l):=by
 unfold jq
 split
 ·exact Good.ok (vE l).pos h.tail.tail
 ·have g:=pV (n:=n) h
  split
  ·exact Good.err
  ·rename_i a l1 e
   obtain ⟨ha,h1⟩:=g _ _ e
   split
   ·have g2:=pV (n:=n) h1.tail
    split
    ·exact Good.err
    ·rename_i b l2 e2
     obtain ⟨hb,h2⟩:=g2 _ _ e2
     split
     ·exact Good.bad
     ·exact Good.ok (Nh ha hb) h2
   ·exact Good.ok (Nh ha ha) h1
theorem kE {n:Nat}:∀ (f:Nat) {s:ah} {l:List Sy},Tidy s->bu l->Good Tidy (bA n f s l)
 | 0,_,_,_,_=>Good.bad
 | f+1,s,l,hs,h=>by
  rw [bA]
  split
  ·exact Good.ok hs h.tail
  ·have g:=Dw (n:=n) h
   split
   ·exact Good.err
   ·rename_i p l1 e
    obtain ⟨hp,h1⟩:=g _ _ e
    exact kE f (jf hs.pos hp) h1
theorem K7 {n:Nat} {l:List Sy} (h:bu l):Good Tidy (iB n l):=by
 unfold iB
 split
 ·have g:=kE (n:=n) (l.length+1) (s:=[]) trivial h.tail
  unfold Ak
  split
  ·exact Good.err
  ·rename_i s l1 e
   obtain ⟨hs,h1⟩:=g _ _ e
   exact Good.ok (dC hs.pos) h1
 ·exact kE _ trivial h
theorem PQ {n:Nat} {l:List Sy} (h:bu l):Good Tidy (dV n l):=by
 unfold dV
 split
 ·exact K7 h.tail
 split
 ·split
  ·exact Good.ok (vE l) h.tail.tail
  ·have g:=qV (n:=n) h.tail
   unfold PN
   split
   ·exact Good.err
   ·rename_i c l1 e
    obtain ⟨hc,h1⟩:=g _ _ e
    exact Good.ok (Ap hc) h1
 split
 ·exact Good.ok (dC og) h.tail
 split
 ·exact Good.bad
 ·rename_i hn
  exact Good.ok (Ap (h.hd fun e=>hn (.inl e))) h.tail
abbrev uw (p:Pn):Prop:=nU p.1
abbrev fu (a:List Sy->bf Pn):Prop:=∀ l,bu l->Good uw (a l)
theorem Dx {n:Nat} {l:List Sy} (h:bu l):Good uw (kN (dV n l)):=by
 have g:=PQ (n:=n) h
 unfold kN
 split
 ·exact Good.err
 ·rename_i s l1 e
  obtain ⟨hs,h1⟩:=g _ _ e
  exact Good.ok (by show nU (.set s);rw [nU];exact hs) h1
theorem Dy {n:Nat}:∀ (f:Nat) {z:Pn} {l:List Sy},uw z->bu l->Good uw (iH n f z l)
 | 0,_,_,_,_=>Good.bad
 | f+1,z,l,hz,h=>by
  rw [iH]
  split
  ·have g:=oh (n:=n) h
   split
   ·exact Good.err
   ·rename_i m l1 e
    exact Dy f (by show nU (.rep z.1 m.1 m.2.1);rw [nU];exact hz) (g _ _ e).2
  ·exact Good.ok hz h
theorem jh {n:Nat} {a:List Sy->bf Pn} (ha:fu a):∀ (f:Nat) {l:List Sy},bu l->Good uw (b_ n a f l)
 | 0,_,_=>Good.bad
 | f+1,l,h=>by
  rw [b_]
  split
  ·have g:=jh (n:=n) ha f h.tail
   split
   ·exact Good.err
   ·rename_i z l1 e
    obtain ⟨hz,h1⟩:=g _ _ e
    exact Good.ok (by show nU (.not z.1);rw [nU];exact hz) h1
  ·have g:=ha l h
   split
   ·exact Good.err
   ·rename_i z l1 e
    obtain ⟨hz,h1⟩:=g _ _ e
    exact Dy _ hz h1
theorem Aq:∀ {l:List Pn},yS (l.map Prod.fst)↔∀ p∈l,uw p
 | []=>by simp [yS]
 | p::r=>by rw [List.map_cons,yS,Aq];simp
theorem Hr {l:List Pn} (h:∀ p∈l,uw p):uw (ib l):=by
 unfold ib
 split
 ·exact h _ (List.mem_cons_self ..)
 ·show nU (.row _);rw [nU,Aq];exact h
theorem Ht {k:Bool} {l:List Pn} (h:∀ p∈l,uw p):uw (gB k l):=by
 unfold gB
 split
 ·exact h _ (List.mem_cons_self ..)
 ·show nU (.aT k _);rw [nU,Aq];exact h
theorem Ni {z:List Pn} {y:Pn} (hz:∀ p∈z,uw p) (hy:uw y):∀ p∈z++[y],uw p:=by
 intro p hp
 rcases List.mem_append.1 hp with hp | hp
 ·exact hz p hp
 ·simp at hp;subst hp;exact hy
theorem mD {n:Nat} {a:List Sy->bf Pn} (ha:fu a):∀ (f:Nat) {z:List Pn} {l:List Sy},(∀ p∈z,uw p)->bu l->Good (fun z=>∀ p∈z,uw p) (aW n a f z l)
 | 0,_,_,_,_=>Good.bad
 | f+1,z,l,hz,h=>by
  rw [aW]
  split
  ·exact Good.ok hz h
  ·have g:=jh (n:=n) ha (l.length+1) h
   split
   ·exact Good.err
   ·rename_i y l1 e
    obtain ⟨hy,h1⟩:=g _ _ e
    exact mD ha f (Ni hz hy) h1
theorem xc {y:Pn} (hy:uw y):∀ p∈[y],uw p:=by intro p hp;simp at hp;subst hp;exact hy
theorem good_row {n:Nat} {a:List Sy->bf Pn} (ha:fu a):fu (rowP n a):=by
 intro l h
 unfold rowP
 split
 ·exact Good.ok (Hr (by simp)) h
 ·have g:=jh (n:=n) ha (l.length+1) h
  split
  ·exact Good.err
  ·rename_i y l1 e
   obtain ⟨hy,h1⟩:=g _ _ e
   exact (mD ha (l1.length+1) (xc hy) h1).map fun _ hv=>Hr hv
theorem mE {n:Nat} {a:List Sy->bf Pn} (ha:fu a) (sg:Int):∀ (f:Nat) {z:List Pn} {l:List Sy},(∀ p∈z,uw p)->bu l->Good (fun z=>∀ p∈z,uw p) (aR n a sg f z l)
 | 0,_,_,_,_=>Good.bad
 | f+1,z,l,hz,h=>by
  rw [aR]
  split
  ·have g:=ha l.tail h.tail
   split
   ·exact Good.err
   ·rename_i y l1 e
    obtain ⟨hy,h1⟩:=g _ _ e
    exact mE ha sg f (Ni hz hy) h1
  ·exact Good.ok hz h
theorem Hu {n:Nat} {a:List Sy->bf Pn} (ha:fu a) (sg:Int) {g:List Pn->Pn} (hg:∀ z,(∀ p∈z,uw p)->uw (g z)):fu (kM n a sg g):=by
 intro l h
 unfold kM
 have g1:=ha l h
 split
 ·exact Good.err
 ·rename_i y l1 e
  obtain ⟨hy,h1⟩:=g1 _ _ e
  exact (mE ha sg (l1.length+1) (xc hy) h1).map hg
theorem sj {n:Nat} {a:List Sy->bf Pn} (ha:fu a):fu (YO n a):=Hu (good_row ha) 38 fun _ hv=>Ht hv
theorem yg {n:Nat} {a:List Sy->bf Pn} (ha:fu a):fu (bM n a):=Hu (sj ha) 124 fun _ hv=>Ht hv
theorem jX {n:Nat}:∀ k:Nat,fu (bF n k)
 | 0=>by
  intro l h
  rw [bF]
  split
  ·exact Good.bad
  ·exact Dx h
 | k+1=>by
  intro l h
  rw [bF]
  split
  ·have g:=yg (n:=n) (jX (n:=n) k) l.tail h.tail
   unfold CW
   split
   ·exact Good.err
   ·rename_i z l1 e
    obtain ⟨hz,h1⟩:=g _ _ e
    split
    ·exact Good.ok hz h1.tail
    ·exact Good.bad
  ·exact Dx h
theorem nC {s:ByteArray} {q:Pt} (h:bn s=.ok q):nU q:=by
 unfold bn at h
 split at h
 ·cases h
 ·have g:=yg (n:=s.size) (jX (n:=s.size) 8) (af s 0) (kD s 0)
  unfold nA at h
  split at h
  ·cases h
  ·rename_i z l e
   obtain ⟨hz,_⟩:=g _ _ e
   split at h
   ·split at h
    ·cases h
    ·cases h;exact hz
   ·cases h
end Go.Proofs.YtfolanohokflkaaGreatDoor
