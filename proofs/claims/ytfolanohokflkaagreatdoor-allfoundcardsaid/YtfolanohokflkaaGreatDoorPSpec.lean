import Derived.Test.YtfolanohokflkaaGreatDoorSvF
import Derived.Test.YtfolanohokflkaaGreatDoorDec
namespace Go.Proofs.YtfolanohokflkaaGreatDoor
inductive Tm where
 | set (l:List (Int×Int))
 | eps
 | chain (a b:Tm)
 | star (a:Tm)
 | not (a:Tm)
 | aZ (k:Bool) (a b:Tm)
deriving DecidableEq
abbrev aG:Tm:=.set []
abbrev whole:Tm:=.not (.set [])
open Tm (eps)
def IK (d:Nat):UInt8:=if d<10 then UInt8.ofNat (48+d) else UInt8.ofNat (87+d)
def Gc:Nat->Nat->List UInt8->List UInt8
 | 0,_,acc=>acc
 | f+1,n,acc=>if n / 16=0 then IK (n % 16)::acc else Gc f (n / 16) (IK (n % 16)::acc)
def IL (n:Nat):List UInt8:=Gc (n+1) n []
def ny:af->List UInt8
 | []=>[]
 | x::r=>IL x.1.toNat++(45::(IL x.2.toNat++(44::ny r)))
def sign (k:Bool):UInt8:=if k=true then 38 else 124
def dh:Option Bool->Tm->List UInt8
 | _,.set l=>91::(ny l++[93])
 | _,.eps=>[101]
 | _,.chain a b=>46::(dh .none a++dh .none b)
 | _,.star a=>42::dh .none a
 | _,.not a=>126::dh .none a
 | m,.aZ k a b=>if m=some k then dh .none a++dh (some k) b else sign k::(dh .none a++(dh (some k) b++[59]))
abbrev rend (t:Tm):List UInt8:=dh Option.none t
def OE:List UInt8->List UInt8->Bool
 | [],_=>false
 | _::_,[]=>true
 | x::r,y::s=>if x=y then OE r s else decide (y<x)
def Tu (a b:Tm):Bool:=OE (rend a) (rend b)
def bF:Tm->Bool
 | .chain _ _=>true
 | _=>false
def ax:Tm->Tm->Tm
 | .chain x y,b=>if b=aG then aG else if b=eps then .chain x y else ax x (ax y b)
 | .set l,b=>if .set l=aG\/b=aG then aG else if b=eps then .set l else .chain (.set l) b
 | .eps,b=>b
 | .star a,b=>if b=aG then aG else if b=eps then .star a else .chain (.star a) b
 | .not a,b=>if b=aG then aG else if b=eps then .not a else .chain (.not a) b
 | .aZ k x y,b=>if b=aG then aG else if b=eps then .aZ k x y else .chain (.aZ k x y) b
def gV (a:Tm):Tm:=if a=aG\/a=eps then eps else match a with
 | .star x=>.star x
 | x=>.star x
def ku:Tm->Tm
 | .not a=>a
 | a=>.not a
def memT (k:Bool):Tm->List Tm
 | .aZ k' a b=>if k'=k then a::memT k b else [.aZ k' a b]
 | t=>[t]
def gW (k:Bool):List Tm->Tm
 | []=>aG
 | [a]=>a
 | a::r=>.aZ k a (gW k r)
def bC (k:Bool):Tm:=if k=true then whole else aG
def ed (k:Bool):Tm:=if k=true then aG else whole
def aQ:Tm->Option af
 | .set l=>some l
 | _=>Option.none
def gI (k:Bool) (a b:af):af:=if k=true then Iu a b else qR a b
def fG (k:Bool):List af->Option af
 | []=>Option.none
 | s::r=>some (r.foldl (gI k) s)
def zR (f:List Tm):List Tm:=f.filter fun t=>(aQ t).isNone
def outs (f:List Tm):List Tm:=(zR f).foldl (fun l t=>o5 Tu t l) []
def aU (k:Bool) (f:List Tm):List Tm:=match fG k (f.filterMap aQ) with
 | Option.none=>outs f
 | some s=>o5 Tu (.set s) (outs f)
def qi (k:Bool) (out:List Tm):Tm:=if ed k∈out then ed k else match out.filter (fun t=>decide (t≠bC k)) with
 | []=>bC k
 | l=>gW k l
def aj (k:Bool) (l:List Tm):Tm:=qi k (aU k (l.flatMap (memT k)))
def di:Tm->Bool
 | .set _=>false
 | .eps=>true
 | .chain a b=>di a&&di b
 | .star _=>true
 | .not a=>!di a
 | .aZ k a b=>if k=true then di a&&di b else di a||di b
def uS:List Tm->Tm
 | t::_=>t
 | []=>aG
def qj (c:Int):Option Bool->Tm->List Tm
 | _,.set l=>[if dw l c=true then eps else aG]
 | _,.eps=>[aG]
 | _,.chain a b=>[if di a=true then aj false [ax (uS (qj c .none a)) b,uS (qj c .none b)] else ax (uS (qj c .none a)) b]
 | _,.star a=>[ax (uS (qj c .none a)) (.star a)]
 | _,.not a=>[ku (uS (qj c .none a))]
 | m,.aZ k a b=>if m=some k then uS (qj c .none a)::qj c (some k) b else [aj k (uS (qj c .none a)::qj c (some k) b)]
def aK (c:Int) (t:Tm):Tm:=uS (qj c Option.none t)
theorem IM (c:Int) (k:Bool):∀ t:Tm,qj c (some k) t=(memT k t).map (aK c)
 | .set l=>by simp [qj,memT,aK,uS]
 | .eps=>by simp [qj,memT,aK,uS]
 | .chain a b=>by simp [qj,memT,aK,uS]
 | .star a=>by simp [qj,memT,aK,uS]
 | .not a=>by simp [qj,memT,aK,uS]
 | .aZ k' a b=>by
  have ih:=IM c k b
  rw [qj,memT]
  by_cases h:k'=k
  ·subst h
   rw [if_pos rfl,if_pos rfl,ih];rfl
  ·rw [if_neg h,if_neg (by simpa using fun e=>h e.symm)]
   simp [aK,qj,uS]
theorem jy (c:Int) (l:af):aK c (.set l)=if dw l c=true then eps else aG:=rfl
theorem A_ (c:Int):aK c eps=aG:=rfl
theorem fM (c:Int) (a b:Tm):aK c (.chain a b)=if di a=true then aj false [ax (aK c a) b,aK c b] else ax (aK c a) b:=rfl
theorem tu (c:Int) (a:Tm):aK c (.star a)=ax (aK c a) (.star a):=rfl
theorem vW (c:Int) (a:Tm):aK c (.not a)=ku (aK c a):=rfl
theorem pz (c:Int) (k:Bool) (a b:Tm):aK c (.aZ k a b)=aj k ((memT k (.aZ k a b)).map (aK c)):=by
 rw [memT,if_pos rfl,List.map_cons,<-IM]
 simp [aK,qj,uS]
theorem mR (a b:Tm):ax a b=if a=aG\/b=aG then aG else if a=eps then b else if b=eps then a else match a with
  | .chain x y=>ax x (ax y b)
  | a=>.chain a b:=by
 cases a with
 | set l=>by_cases h:l=[]<;>simp [ax,h]
 | eps=>by_cases h:b=aG<;>simp [ax,h]
 | chain x y=>simp [ax]
 | star a=>simp [ax]
 | not a=>simp [ax]
 | aZ k x y=>simp [ax]
theorem aR (b:Tm):ax aG b=aG:=by rw [mR];simp
theorem aH (a:Tm):ax a aG=aG:=by rw [mR];simp
theorem bq (b:Tm):ax eps b=b:=by cases b<;>rfl
theorem ah (a:Tm):ax a eps=a:=by
 rw [mR]
 by_cases h:a=aG
 ·simp [h]
 ·by_cases h2:a=eps<;>simp [h,h2]
inductive Star (P:List Int->Prop):List Int->Prop where
 | nil:Star P []
 | more {u v:List Int}:P u->Star P v->Star P (u++v)
def wd:Tm->List Int->Prop
 | .set l,w=>∃ c,w=[c]/\dw l c=true
 | .eps,w=>w=[]
 | .chain a b,w=>∃ u v,w=u++v/\wd a u/\wd b v
 | .star a,w=>Star (wd a) w
 | .not a,w=>¬ wd a w
 | .aZ k a b,w=>if k=true then wd a w/\wd b w else wd a w\/wd b w
def iq (w:List Int):Prop:=∀ c∈w,aF c=true
theorem iq.left {u v:List Int} (h:iq (u++v)):iq u:=fun c hc=>h c (List.mem_append_left _ hc)
theorem vX {w:List Int}:¬ wd aG w:=by rintro ⟨c,_,h⟩;simp [dw] at h
theorem vY {w:List Int}:wd whole w:=vX
def pE (k:Bool) (l:List Tm) (w:List Int):Prop:=if k=true then ∀ t∈l,wd t w else ∃ t∈l,wd t w
theorem nA (k:Bool) (t:Tm) (l:List Tm) (w:List Int):pE k (t::l) w↔if k=true then wd t w/\pE k l w else wd t w\/pE k l w:=by
 cases k<;>simp [pE]
theorem Ba (k:Bool) (l m:List Tm) (w:List Int):pE k (l++m) w↔if k=true then pE k l w/\pE k m w else pE k l w\/pE k m w:=by
 cases k
 ·simp only [pE,Bool.false_eq_true,if_false,List.mem_append]
  constructor
  ·rintro ⟨t,h | h,ht⟩
   ·exact .inl ⟨t,h,ht⟩
   ·exact .inr ⟨t,h,ht⟩
  ·rintro (⟨t,h,ht⟩ | ⟨t,h,ht⟩)
   ·exact ⟨t,.inl h,ht⟩
   ·exact ⟨t,.inr h,ht⟩
 ·simp only [pE,if_true,List.mem_append]
  exact ⟨fun h=>⟨fun t ht=>h t (.inl ht),fun t ht=>h t (.inr ht)⟩,fun h t ht=>ht.elim (h.1 t) (h.2 t)⟩
theorem Gd {k:Bool} {l m:List Tm} (h:∀ t,t∈l↔t∈m) (w:List Int):pE k l w↔pE k m w:=by
 cases k<;>simp [pE,h]
theorem Uq (k:Bool) (w:List Int):∀ t:Tm,wd t w↔pE k (memT k t) w
 | .set l=>by cases k<;>simp [memT,pE]
 | .eps=>by cases k<;>simp [memT,pE]
 | .chain a b=>by cases k<;>simp [memT,pE]
 | .star a=>by cases k<;>simp [memT,pE]
 | .not a=>by cases k<;>simp [memT,pE]
 | .aZ k' a b=>by
  have ih:=Uq k w b
  rw [memT]
  by_cases h:k'=k
  ·subst h
   rw [if_pos rfl,nA,<-ih]
   exact Iff.rfl
  ·rw [if_neg h]
   cases k<;>simp [pE]
theorem IP (k:Bool) (w:List Int):∀ l:List Tm,l≠[]->(wd (gW k l) w↔pE k l w)
 | [],h=>absurd rfl h
 | [a],_=>by cases k<;>simp [gW,pE]
 | a::b::r,_=>by
  rw [show gW k (a::b::r)=.aZ k a (gW k (b::r)) from rfl,nA,<-IP k w (b::r) (by simp)]
  exact Iff.rfl
def jW:Tm->Prop
 | .set l=>Tidy l
 | .eps=>True
 | .chain a b=>jW a/\jW b
 | .star a=>jW a
 | .not a=>jW a
 | .aZ _ a b=>jW a/\jW b
theorem Ur (k:Bool):∀ {t:Tm},jW t->∀ m∈memT k t,jW m
 | .set l,h=>by simpa [memT] using h
 | .eps,h=>by simpa [memT] using h
 | .chain a b,h=>by simpa [memT] using h
 | .star a,h=>by simpa [memT] using h
 | .not a,h=>by simpa [memT] using h
 | .aZ k' a b,h=>by
  rw [memT]
  split
  ·intro m hm
   rcases List.mem_cons.1 hm with rfl | hm
   ·exact h.1
   ·exact Ur k h.2 m hm
  ·intro m hm;simp at hm;subst hm;exact h
theorem IQ (k:Bool) {a b:af} (ha:Tidy a) (hb:Tidy b):Tidy (gI k a b):=by
 unfold gI;split
 ·exact xN ha.pos hb.pos
 ·exact iY ha.pos hb.pos
theorem Bc (k:Bool):∀ (r:List af) (s:af),Tidy s->(∀ x∈r,Tidy x)->Tidy (r.foldl (gI k) s)
 | [],_,h,_=>h
 | x::r,s,h,hr=>Bc k r (gI k s x) (IQ k h (hr x (List.mem_cons_self ..))) fun y hy=>hr y (List.mem_cons_of_mem _ hy)
theorem ql {k:Bool} {l:List af} {s:af} (h:fG k l=some s) (hl:∀ x∈l,Tidy x):Tidy s:=by
 cases l with
 | nil=>simp [fG] at h
 | cons x r=>
  simp only [fG,Option.some.injEq] at h
  subst h
  exact Bc k r x (hl x (List.mem_cons_self ..)) fun y hy=>hl y (List.mem_cons_of_mem _ hy)
theorem uu {t:Tm}:∀ {l m:List Tm},t∈l.foldl (fun l t=>o5 Tu t l) m↔t∈l\/t∈m
 | [],m=>by simp
 | x::l,m=>by
  rw [List.foldl_cons,uu,tq]
  simp only [List.mem_cons]
  constructor
  ·rintro (h | h | h)<;>simp [h]
  ·rintro ((h | h) | h)<;>simp [h]
theorem rE {f:List Tm} {t:Tm}:t∈outs f↔t∈f/\aQ t=Option.none:=by
 rw [outs,uu,zR];simp
theorem b_ {f:List Tm} {s:af}:s∈f.filterMap aQ↔Tm.set s∈f:=by
 rw [List.mem_filterMap]
 constructor
 ·rintro ⟨t,ht,h⟩
  cases t<;>simp [aQ] at h
  subst h;exact ht
 ·intro h;exact ⟨_,h,rfl⟩
theorem aP {k:Bool} {f:List Tm} {t:Tm}:t∈aU k f↔(t∈f/\aQ t=Option.none)\/∃ s,fG k (f.filterMap aQ)=some s/\t=.set s:=by
 unfold aU
 split
 ·rename_i h;simp [rE,h]
 ·rename_i s h
  rw [tq,rE,h]
  constructor
  ·rintro (rfl | h)
   ·exact .inr ⟨s,rfl,rfl⟩
   ·exact .inl h
  ·rintro (h | ⟨s',h1,rfl⟩)
   ·exact .inr h
   ·cases h1;exact .inl rfl
theorem Q8 (k:Bool) {a b:af} (ha:Tidy a) (hb:Tidy b) {w:List Int} (hw:iq w) :
  wd (.set (gI k a b)) w↔if k=true then wd (.set a) w/\wd (.set b) w else wd (.set a) w\/wd (.set b) w:=by
 cases k
 ·simp only [gI,Bool.false_eq_true,if_false]
  constructor
  ·rintro ⟨c,rfl,h⟩
   rw [og ha.pos hb.pos (hw c (by simp)),Bool.or_eq_true] at h
   exact h.imp (fun h=>⟨c,rfl,h⟩) (fun h=>⟨c,rfl,h⟩)
  ·rintro (⟨c,rfl,h⟩ | ⟨c,rfl,h⟩)
   ·exact ⟨c,rfl,by rw [og ha.pos hb.pos (hw c (by simp)),h];rfl⟩
   ·exact ⟨c,rfl,by rw [og ha.pos hb.pos (hw c (by simp)),h];simp⟩
 ·simp only [gI,if_true]
  constructor
  ·rintro ⟨c,rfl,h⟩
   rw [vT ha.pos hb.pos (hw c (by simp)),Bool.and_eq_true] at h
   exact ⟨⟨c,rfl,h.1⟩,⟨c,rfl,h.2⟩⟩
  ·rintro ⟨⟨c,rfl,h⟩,⟨d,hd,h2⟩⟩
   cases hd
   exact ⟨c,rfl,by rw [vT ha.pos hb.pos (hw c (by simp)),h,h2];rfl⟩
theorem Be (k:Bool) {w:List Int} (hw:iq w):∀ (r:List af) (s:af),Tidy s->(∀ x∈r,Tidy x) ->
  (wd (.set (r.foldl (gI k) s)) w↔pE k ((s::r).map Tm.set) w)
 | [],s,_,_=>by cases k<;>simp [pE]
 | x::r,s,h,hr=>by
  have hx:=hr x (List.mem_cons_self ..)
  rw [List.foldl_cons,Be k hw r _ (IQ k h hx) (fun y hy=>hr y (List.mem_cons_of_mem _ hy)),List.map_cons,nA,Q8 k h hx hw,List.map_cons,List.map_cons,nA,nA]
  cases k
  ·simp [or_assoc]
  ·simp [and_assoc]
theorem YC {k:Bool} {l:List Tm} {w:List Int}:wd (qi k l) w↔pE k l w:=by
 unfold qi
 by_cases hz:ed k∈l
 ·rw [if_pos hz]
  cases k
  ·exact ⟨fun _=>⟨_,hz,vY⟩,fun _=>vY⟩
  ·exact ⟨fun h=>absurd h vX,fun h=>absurd (h _ hz) vX⟩
 ·rw [if_neg hz]
  have hfil:pE k (l.filter (fun t=>decide (t≠bC k))) w↔pE k l w:=by
   cases k
   ·simp only [pE,Bool.false_eq_true,if_false,List.mem_filter]
    constructor
    ·rintro ⟨t,⟨h,_⟩,ht⟩;exact ⟨t,h,ht⟩
    ·rintro ⟨t,h,ht⟩
     refine ⟨t,⟨h,?_⟩,ht⟩
     have:t≠bC false:=by rintro rfl;exact vX ht
     simpa using this
   ·simp only [pE,if_true,List.mem_filter]
    constructor
    ·intro h t ht
     by_cases e:t=bC true
     ·rw [e];exact vY
     ·exact h t ⟨ht,by simpa using e⟩
    ·intro h t ht;exact h t ht.1
  split
  ·rename_i he
   rw [<-hfil,he]
   cases k
   ·exact ⟨fun h=>absurd h vX,fun ⟨_,h,_⟩=>by simp at h⟩
   ·exact ⟨fun _ t h=>by simp at h,fun _=>vY⟩
  ·rename_i hne
   rw [<-hfil]
   exact IP k w _ hne
theorem Q9 {k:Bool} {l:List Tm} (hl:∀ t∈l,jW t) {w:List Int} (hw:iq w):wd (aj k l) w↔pE k l w:=by
 rw [aj,YC]
 have qM:pE k (l.flatMap (memT k)) w↔pE k l w:=by
  clear hl
  induction l with
  | nil=>simp
  | cons t l ih=>rw [List.flatMap_cons,Ba,nA,ih,<-Uq]
 rw [<-qM]
 have hf:∀ t∈l.flatMap (memT k),jW t:=by
  intro t ht
  obtain ⟨x,hx,hm⟩:=List.mem_flatMap.1 ht
  exact Ur k (hl x hx) t hm
 generalize hff:l.flatMap (memT k)=f at *
 clear qM hff
 cases hs:fG k (f.filterMap aQ) with
 | none=>
  have hno:f.filterMap aQ=[]:=by
   cases h:f.filterMap aQ with
   | nil=>rfl
   | cons s r=>rw [h] at hs;simp [fG] at hs
  refine Gd (fun t=>?_) w
  rw [aP,hs]
  simp only [reduceCtorEq,false_and,exists_false,or_false]
  refine ⟨fun h=>h.1,fun h=>⟨h,?_⟩⟩
  cases ht:aQ t with
  | none=>rfl
  | some s=>
   cases t<;>simp [aQ] at ht
   subst ht
   have:=b_.2 h
   rw [hno] at this
   simp at this
 | some s=>
  have acZ:wd (.set s) w↔pE k ((f.filterMap aQ).map Tm.set) w:=by
   cases hq:f.filterMap aQ with
   | nil=>rw [hq] at hs;simp [fG] at hs
   | cons x r=>
    rw [hq] at hs
    simp only [fG,Option.some.injEq] at hs
    subst hs
    have hall:∀ y∈x::r,Tidy y:=fun y hy=>hf (.set y) (b_.1 (hq▸hy))
    exact Be k hw r x (hall x (List.mem_cons_self ..)) fun y hy=>hall y (List.mem_cons_of_mem _ hy)
  have e1:pE k (aU k f) w↔pE k (.set s::outs f) w:=by
   refine Gd (fun t=>?_) w
   rw [aP,hs,List.mem_cons,rE]
   constructor
   ·rintro (h | ⟨s',h1,rfl⟩)
    ·exact .inr h
    ·cases h1;exact .inl rfl
   ·rintro (rfl | h)
    ·exact .inr ⟨s,rfl,rfl⟩
    ·exact .inl h
  have e2:pE k f w↔pE k ((f.filterMap aQ).map Tm.set++outs f) w:=by
   refine Gd (fun t=>?_) w
   rw [List.mem_append,rE,List.mem_map]
   constructor
   ·intro h
    cases ht:aQ t with
    | none=>exact .inr ⟨h,rfl⟩
    | some s'=>
     cases t<;>simp [aQ] at ht
     subst ht
     exact .inl ⟨_,b_.2 h,rfl⟩
   ·rintro (⟨x,hx,rfl⟩ | h)
    ·exact b_.1 hx
    ·exact h.1
  rw [e1,e2,nA,Ba,acZ]
theorem jH:∀ t:Tm,di t=true↔wd t []
 | .set l=>by simp [di,wd]
 | .eps=>by simp [di,wd]
 | .chain a b=>by
  simp only [di,wd,Bool.and_eq_true,jH a,jH b]
  constructor
  ·rintro ⟨h1,h2⟩;exact ⟨[],[],rfl,h1,h2⟩
  ·rintro ⟨u,v,h,h1,h2⟩
   have:=List.append_eq_nil_iff.1 h.symm
   rw [this.1] at h1;rw [this.2] at h2;exact ⟨h1,h2⟩
 | .star a=>by simp only [di,wd,true_iff];exact .nil
 | .not a=>by simp [di,wd,<-jH a]
 | .aZ k a b=>by
  cases k
  ·simp [di,wd,jH a,jH b]
  ·simp [di,wd,jH a,jH b]
def aI (t:Tm) (w:List Int):Tm:=w.foldl (fun t c=>aK c t) t
end Go.Proofs.YtfolanohokflkaaGreatDoor
namespace Go.Proofs.YtfolanohokflkaaGreatDoor
open Tm (eps)
def Us (c:UInt8):Nat:=if 97<=c.toNat then c.toNat - 87 else c.toNat - 48
def rF (c:UInt8):Prop:=(48<=c.toNat/\c.toNat<=57)\/(97<=c.toNat/\c.toNat<=102)
theorem Ut {d:Nat} (h:d<16):rF (IK d):=by
 unfold rF IK
 split
 ·rw [UInt8.toNat_ofNat_of_lt' (by show _<256;omega)];omega
 ·rw [UInt8.toNat_ofNat_of_lt' (by show _<256;omega)];omega
theorem Uu {d:Nat} (h:d<16):Us (IK d)=d:=by
 unfold Us IK
 split
 ·rw [UInt8.toNat_ofNat_of_lt' (by show _<256;omega),if_neg (by omega)];omega
 ·rw [UInt8.toNat_ofNat_of_lt' (by show _<256;omega),if_pos (by omega)];omega
def Bg (v:Nat) (l:List UInt8):Nat:=l.foldl (fun n c=>16*n+Us c) v
theorem IU:∀ (f n:Nat) (acc:List UInt8),n<f->Bg 0 (Gc f n acc)=Bg n acc
 | 0,_,_,h=>absurd h (Nat.not_lt_zero _)
 | f+1,n,acc,h=>by
  have hd:=Uu (d:=n % 16) (Nat.mod_lt _ (by omega))
  rw [Gc]
  split
  ·show Bg (16*0+Us (IK (n % 16))) acc=_
   rw [hd];congr 1;omega
  ·rw [IU f (n / 16) _ (by omega)]
   show Bg (16*(n / 16)+Us (IK (n % 16))) acc=_
   rw [hd];congr 1;omega
theorem IV (n:Nat):Bg 0 (IL n)=n:=IU (n+1) n [] (Nat.lt_succ_self n)
theorem IW:∀ (f n:Nat) (acc:List UInt8),(∀ c∈acc,rF c)->∀ c∈Gc f n acc,rF c
 | 0,_,_,h=>h
 | f+1,n,acc,h=>by
  have hd:=Ut (d:=n % 16) (Nat.mod_lt _ (by omega))
  rw [Gc]
  split
  ·intro c hc
   rcases List.mem_cons.1 hc with rfl | hc
   ·exact hd
   ·exact h c hc
  ·refine IW f _ _ fun c hc=>?_
   rcases List.mem_cons.1 hc with rfl | hc
   ·exact hd
   ·exact h c hc
theorem Bh (n:Nat):∀ c∈IL n,rF c:=IW _ _ _ (by simp)
theorem OG:∀ (f n:Nat) (acc:List UInt8),0<f\/acc≠[]->Gc f n acc≠[]
 | 0,_,acc,h=>by rw [Gc];exact h.resolve_left (by omega)
 | f+1,n,acc,_=>by
  rw [Gc]
  split
  ·simp
  ·exact OG f _ _ (.inr (by simp))
theorem OH (n:Nat):IL n≠[]:=OG _ _ _ (.inl (by omega))
theorem IX {m n:Nat} (h:IL m=IL n):m=n:=by rw [<-IV m,<-IV n,h]
theorem Bi {d:UInt8}:∀ {u v x y:List UInt8},d∉u->d∉v->u++d::x=v++d::y->u=v/\x=y
 | [],[],x,y,_,_,h=>by simpa using h
 | [],b::v,x,y,_,hv,h=>by
  simp only [List.nil_append,List.cons_append,List.cons.injEq] at h
  exact absurd (by rw [h.1];exact List.mem_cons_self ..) hv
 | a::u,[],x,y,hu,_,h=>by
  simp only [List.nil_append,List.cons_append,List.cons.injEq] at h
  exact absurd (by rw [<-h.1];exact List.mem_cons_self ..) hu
 | a::u,b::v,x,y,hu,hv,h=>by
  simp only [List.cons_append,List.cons.injEq] at h
  obtain ⟨e1,e2⟩:=Bi (fun hm=>hu (List.mem_cons_of_mem _ hm)) (fun hm=>hv (List.mem_cons_of_mem _ hm)) h.2
  exact ⟨by rw [h.1,e1],e2⟩
theorem zS {d:UInt8} {n:Nat} (h:d=45\/d=44\/d=93\/d=59):d∉IL n:=by
 intro hm
 have:=Bh n d hm
 unfold rF at this
 rcases h with rfl | rfl | rfl | rfl<;>simp at this
theorem Bj:∀ {a b:af} {x y:List UInt8},Pos a->Pos b->ny a++93::x=ny b++93::y->a=b/\x=y
 | [],[],x,y,_,_,h=>by simpa [ny] using h
 | [],q::b,x,y,_,_,h=>by
  exfalso
  rw [ny,ny] at h
  obtain ⟨c,r,hc⟩:=List.exists_cons_of_ne_nil (OH q.1.toNat)
  have h1:=Bh q.1.toNat c (by rw [hc];exact List.mem_cons_self ..)
  rw [hc] at h
  simp only [List.nil_append,List.cons_append,List.cons.injEq] at h
  rw [<-h.1] at h1
  unfold rF at h1;simp at h1
 | p::a,[],x,y,_,_,h=>by
  exfalso
  rw [ny,ny] at h
  obtain ⟨c,r,hc⟩:=List.exists_cons_of_ne_nil (OH p.1.toNat)
  have h1:=Bh p.1.toNat c (by rw [hc];exact List.mem_cons_self ..)
  rw [hc] at h
  simp only [List.nil_append,List.cons_append,List.cons.injEq] at h
  rw [h.1] at h1
  unfold rF at h1;simp at h1
 | p::a,q::b,x,y,ha,hb,h=>by
  rw [ny,ny] at h
  simp only [List.append_assoc,List.cons_append] at h
  obtain ⟨e1,h⟩:=Bi (zS (.inl rfl)) (zS (.inl rfl)) h
  obtain ⟨e2,h⟩:=Bi (zS (.inr (.inl rfl))) (zS (.inr (.inl rfl))) h
  obtain ⟨e3,e4⟩:=Bj (fun z hz=>ha z (List.mem_cons_of_mem _ hz)) (fun z hz=>hb z (List.mem_cons_of_mem _ hz)) h
  have ep:=IX e1
  have eq:=IX e2
  have p0:=ha p (List.mem_cons_self ..)
  have q0:=hb q (List.mem_cons_self ..)
  refine ⟨?_,e4⟩
  rw [e3,show p=q from Prod.ext (by omega) (by omega)]
theorem Uv {k k':Bool} (h:sign k=sign k'):k=k':=by cases k<;>cases k'<;>simp [sign] at h ⊢
theorem kF (k:Bool):sign k≠91/\sign k≠101/\sign k≠46/\sign k≠42/\sign k≠126/\sign k≠59:=by cases k<;>decide
theorem uT:∀ (m:Option Bool) (t:Tm),∃ c r,dh m t=c::r/\c≠59
 | _,.set l=>⟨91,_,rfl,by decide⟩
 | _,.eps=>⟨101,_,rfl,by decide⟩
 | _,.chain a b=>⟨46,_,rfl,by decide⟩
 | _,.star a=>⟨42,_,rfl,by decide⟩
 | _,.not a=>⟨126,_,rfl,by decide⟩
 | m,.aZ k a b=>by
  rw [dh]
  split
  ·obtain ⟨c,r,h,hc⟩:=uT Option.none a
   exact ⟨c,r++dh (some k) b,by rw [h];rfl,hc⟩
  ·exact ⟨sign k,_,rfl,(kF k).2.2.2.2.2⟩
def dD (k:Bool):Tm->Bool
 | .aZ k' _ _=>k' != k
 | _=>true
theorem xU {k:Bool}:∀ {t:Tm},dD k t=true->dh (some k) t=rend t
 | .set _,_=>rfl
 | .eps,_=>rfl
 | .chain _ _,_=>rfl
 | .star _,_=>rfl
 | .not _,_=>rfl
 | .aZ k' a b,h=>by
  have:k'≠k:=by simpa [dD] using h
  rw [rend,dh,dh,if_neg (by simpa using fun e=>this e.symm),if_neg (by simp)]
theorem xV (k:Bool) (a b:Tm):dh (some k) (.aZ k a b)=rend a++dh (some k) b:=by rw [dh,if_pos rfl]
theorem nC (k:Bool) (a b:Tm):rend (.aZ k a b)=sign k::(rend a++(dh (some k) b++[59])):=by rw [rend,dh,if_neg (by simp)]
theorem iP (k:Bool) (t:Tm):(∃ a b,t=.aZ k a b)\/dD k t=true:=by
 cases t with
 | aZ k' a b=>
  by_cases h:k'=k
  ·exact .inl ⟨a,b,by rw [h]⟩
  ·exact .inr (by simpa [dD] using h)
 | _=>exact .inr rfl
theorem ik {k:Bool} {a:Tm} (P:∀ (b:Tm) (x y:List UInt8),jW b->rend a++x=rend b++y->a=b/\x=y)
  (Q:∀ a1 a2,a=.aZ k a1 a2->(∀ (b:Tm) (x y:List UInt8),jW b->rend a1++x=rend b++y->a1=b/\x=y)/\∀ (b:Tm) (x y:List UInt8),jW b->dh (some k) a2++59::x=dh (some k) b++59::y->a2=b/\x=y)
  (b:Tm) (x y:List UInt8) (hb:jW b) (h:dh (some k) a++59::x=dh (some k) b++59::y):a=b/\x=y:=by
 rcases iP k a with ⟨a1,a2,rfl⟩ | ha
 ·obtain ⟨P1,Q2⟩:=Q a1 a2 rfl
  rw [xV,List.append_assoc] at h
  rcases iP k b with ⟨b1,b2,rfl⟩ | hb'
  ·rw [xV,List.append_assoc] at h
   obtain ⟨e1,h⟩:=P1 b1 _ _ hb.1 h
   obtain ⟨e2,h⟩:=Q2 b2 _ _ hb.2 h
   exact ⟨by rw [e1,e2],h⟩
  ·rw [xU hb'] at h
   obtain ⟨e1,h⟩:=P1 b _ _ hb h
   obtain ⟨c,r,hc,hn⟩:=uT (some k) a2
   rw [hc] at h
   simp only [List.cons_append,List.cons.injEq] at h
   exact absurd h.1 hn
 ·rw [xU ha] at h
  rcases iP k b with ⟨b1,b2,rfl⟩ | hb'
  ·rw [xV,List.append_assoc] at h
   obtain ⟨e1,h⟩:=P b1 _ _ hb.1 h
   obtain ⟨c,r,hc,hn⟩:=uT (some k) b2
   rw [hc] at h
   simp only [List.cons_append,List.cons.injEq] at h
   exact absurd h.1.symm hn
  ·rw [xU hb'] at h
   obtain ⟨e1,h⟩:=P b _ _ hb h
   simp only [List.cons.injEq,true_and] at h
   exact ⟨e1,h⟩
theorem lu:∀ (a:Tm),jW a->(∀ (b:Tm) (x y:List UInt8),jW b->rend a++x=rend b++y->a=b/\x=y) /\
  ∀ k,∀ (b:Tm) (x y:List UInt8),jW b->dh (some k) a++59::x=dh (some k) b++59::y->a=b/\x=y
 | .set l,ha=>by
  have P:∀ (b:Tm) (x y:List UInt8),jW b->rend (.set l)++x=rend b++y->.set l=b/\x=y:=by
   intro b x y hb h
   cases b with
   | set m=>
    simp only [rend,dh,List.cons_append,List.append_assoc,List.cons.injEq,true_and,List.nil_append] at h
    obtain ⟨e1,e2⟩:=Bj (eD.pos ha) (eD.pos hb) h
    exact ⟨by rw [e1],e2⟩
   | aZ k c d=>rw [nC] at h;simp [rend,dh] at h;exact absurd h.1.symm (kF k).1
   | _=>simp [rend,dh] at h
  exact ⟨P,fun k=>ik P (fun _ _ h=>by cases h)⟩
 | .eps,ha=>by
  have P:∀ (b:Tm) (x y:List UInt8),jW b->rend eps++x=rend b++y->eps=b/\x=y:=by
   intro b x y hb h
   cases b with
   | eps=>simp [rend,dh] at h;exact ⟨rfl,h⟩
   | aZ k c d=>rw [nC] at h;simp [rend,dh] at h;exact absurd h.1.symm (kF k).2.1
   | _=>simp [rend,dh] at h
  exact ⟨P,fun k=>ik P (fun _ _ h=>by cases h)⟩
 | .chain a1 a2,ha=>by
  have P1:=(lu a1 ha.1).1
  have P2:=(lu a2 ha.2).1
  have P:∀ (b:Tm) (x y:List UInt8),jW b->rend (.chain a1 a2)++x=rend b++y->.chain a1 a2=b/\x=y:=by
   intro b x y hb h
   cases b with
   | chain b1 b2=>
    simp only [rend,dh,List.cons_append,List.append_assoc,List.cons.injEq,true_and] at h
    obtain ⟨e1,h⟩:=P1 b1 _ _ hb.1 h
    obtain ⟨e2,h⟩:=P2 b2 _ _ hb.2 h
    exact ⟨by rw [e1,e2],h⟩
   | aZ k c d=>rw [nC] at h;simp [rend,dh] at h;exact absurd h.1.symm (kF k).2.2.1
   | _=>simp [rend,dh] at h
  exact ⟨P,fun k=>ik P (fun _ _ h=>by cases h)⟩
 | .star a1,ha=>by
  have P1:=(lu a1 ha).1
  have P:∀ (b:Tm) (x y:List UInt8),jW b->rend (.star a1)++x=rend b++y->.star a1=b/\x=y:=by
   intro b x y hb h
   cases b with
   | star b1=>
    simp only [rend,dh,List.cons_append,List.cons.injEq,true_and] at h
    obtain ⟨e1,h⟩:=P1 b1 _ _ hb h
    exact ⟨by rw [e1],h⟩
   | aZ k c d=>rw [nC] at h;simp [rend,dh] at h;exact absurd h.1.symm (kF k).2.2.2.1
   | _=>simp [rend,dh] at h
  exact ⟨P,fun k=>ik P (fun _ _ h=>by cases h)⟩
 | .not a1,ha=>by
  have P1:=(lu a1 ha).1
  have P:∀ (b:Tm) (x y:List UInt8),jW b->rend (.not a1)++x=rend b++y->.not a1=b/\x=y:=by
   intro b x y hb h
   cases b with
   | not b1=>
    simp only [rend,dh,List.cons_append,List.cons.injEq,true_and] at h
    obtain ⟨e1,h⟩:=P1 b1 _ _ hb h
    exact ⟨by rw [e1],h⟩
   | aZ k c d=>rw [nC] at h;simp [rend,dh] at h;exact absurd h.1.symm (kF k).2.2.2.2.1
   | _=>simp [rend,dh] at h
  exact ⟨P,fun k=>ik P (fun _ _ h=>by cases h)⟩
 | .aZ k a1 a2,ha=>by
  have P1:=(lu a1 ha.1).1
  have Q2:=(lu a2 ha.2).2
  have P:∀ (b:Tm) (x y:List UInt8),jW b->rend (.aZ k a1 a2)++x=rend b++y->.aZ k a1 a2=b/\x=y:=by
   intro b x y hb h
   rw [nC] at h
   cases b with
   | aZ k' b1 b2=>
    rw [nC] at h
    simp only [List.cons_append,List.append_assoc,List.cons.injEq,List.nil_append] at h
    have hk:=Uv h.1
    subst hk
    obtain ⟨e1,h⟩:=P1 b1 _ _ hb.1 h.2
    obtain ⟨e2,h⟩:=Q2 k b2 _ _ hb.2 h
    exact ⟨by rw [e1,e2],h⟩
   | set l=>simp [rend,dh] at h;exact absurd h.1 (kF k).1
   | eps=>simp [rend,dh] at h;exact absurd h.1 (kF k).2.1
   | chain c d=>simp [rend,dh] at h;exact absurd h.1 (kF k).2.2.1
   | star c=>simp [rend,dh] at h;exact absurd h.1 (kF k).2.2.2.1
   | not c=>simp [rend,dh] at h;exact absurd h.1 (kF k).2.2.2.2.1
  exact ⟨P,fun k'=>ik P (fun c d h=>by
   cases h
   exact ⟨P1,Q2 k⟩)⟩
theorem Uw {a b:Tm} (ha:jW a) (hb:jW b) (h:rend a=rend b):a=b:=((lu a ha).1 b [] [] hb (by rw [h])).1
theorem Bl:∀ l:List UInt8,OE l l=false
 | []=>rfl
 | x::r=>by rw [OE,if_pos rfl,Bl r]
theorem Er:∀ a b c:List UInt8,OE b a=true->OE c b=true->OE c a=true
 | _,[],_,h,_=>by simp [OE] at h
 | _,_::_,[],_,h=>by simp [OE] at h
 | [],_::_,_::_,_,_=>rfl
 | x::a,y::b,z::c,h1,h2=>by
  rw [OE] at h1 h2 ⊢
  by_cases e1:y=x
  ·by_cases e2:z=y
   ·rw [if_pos e1] at h1;rw [if_pos e2] at h2;rw [if_pos (e2.trans e1)]
    exact Er a b c h1 h2
   ·rw [if_neg e2] at h2;rw [e1] at e2;rw [if_neg e2];rw [e1] at h2;exact h2
  ·rw [if_neg e1] at h1
   have h1':=of_decide_eq_true h1
   by_cases e2:z=y
   ·subst e2;rw [if_neg e1];exact h1
   ·rw [if_neg e2] at h2
    have h2':=of_decide_eq_true h2
    have:x<z:=UInt8.lt_trans h1' h2'
    rw [if_neg (by rintro rfl;exact absurd this (UInt8.lt_irrefl _))]
    exact decide_eq_true this
theorem Es:∀ a b:List UInt8,OE a b=true\/OE b a=true\/a=b
 | [],[]=>.inr (.inr rfl)
 | [],_::_=>.inr (.inl rfl)
 | _::_,[]=>.inl rfl
 | x::a,y::b=>by
  rw [OE,OE]
  by_cases e:x=y
  ·subst e
   rw [if_pos rfl,if_pos rfl]
   rcases Es a b with h | h | h
   ·exact .inl h
   ·exact .inr (.inl h)
   ·exact .inr (.inr (by rw [h]))
  ·rw [if_neg e,if_neg (fun h=>e h.symm)]
   rcases UInt8.lt_or_lt_of_ne e with h | h
   ·exact .inr (.inl (decide_eq_true h))
   ·exact .inl (decide_eq_true h)
theorem Bo (a:Tm):Tu a a=false:=Bl _
theorem Et (a b c:Tm):Tu b a=true->Tu c b=true->Tu c a=true:=Er _ _ _
theorem Q_ {a b:Tm} (ha:jW a) (hb:jW b):Tu a b=true\/Tu b a=true\/a=b:=by
 rcases Es (rend a) (rend b) with h | h | h
 ·exact .inl h
 ·exact .inr (.inl h)
 ·exact .inr (.inr (Uw ha hb h))
def rG (l:List Tm):Prop:=l.Pairwise (fun a b=>Tu b a=true)
theorem IY {l m:List Tm} (hl:rG l) (hm:rG m) (h:∀ x,x∈l↔x∈m):l=m:=uM Bo Et hl hm h
theorem vZ {l:List Tm} (h:rG l) (hl:∀ t∈l,jW t) {c:Tm} (hc:jW c):rG (o5 Tu c l):=by
 unfold o5
 split
 ·exact h
 ·rename_i hn
  refine rz Et (fun x hx=>?_) h
  rcases Q_ (hl x hx) hc with h1 | h1 | h1
  ·exact .inl h1
  ·exact .inr h1
  ·subst h1;exact absurd (by simpa using hx) hn
theorem yU:∀ {f l:List Tm},rG l->(∀ t∈l,jW t)->(∀ t∈f,jW t)->rG (f.foldl (fun l t=>o5 Tu t l) l)
 | [],_,h,_,_=>h
 | x::f,l,h,hl,hf=>by
  have hx:=hf x (List.mem_cons_self ..)
  refine yU (f:=f) (vZ h hl hx) (fun t ht=>?_) (fun t ht=>hf t (List.mem_cons_of_mem _ ht))
  rcases tq.1 ht with rfl | ht
  ·exact hx
  ·exact hl t ht
theorem yV {f:List Tm} (hf:∀ t∈f,jW t):rG (outs f):=by
 refine yU (by simp [rG]) (by simp) fun t ht=>hf t ?_
 rw [zR] at ht
 exact (List.mem_filter.1 ht).1
theorem nD {k:Bool} {f:List Tm} (hf:∀ t∈f,jW t):(∀ t∈aU k f,jW t)/\rG (aU k f):=by
 have h1:∀ t∈aU k f,jW t:=by
  intro t ht
  rcases aP.1 ht with h | ⟨s,hs,rfl⟩
  ·exact hf t h.1
  ·exact ql hs fun x hx=>hf (.set x) (b_.1 hx)
 refine ⟨h1,?_⟩
 unfold aU at h1 ⊢
 split
 ·exact yV hf
 ·rename_i s hs
  exact vZ (yV hf) (fun t ht=>hf t (rE.1 ht).1) (ql hs fun x hx=>hf (.set x) (b_.1 hx))
def oJ:Tm->Bool
 | .star _=>true
 | _=>false
def OI:Tm->Bool
 | .not _=>true
 | _=>false
def mi (l:List Tm):Prop:=(l.filterMap aQ).length<=1
def uU:Option Bool->Tm->Prop
 | m,.set l=>Tidy l/\(m≠Option.none->l≠[])
 | _,.eps=>True
 | _,.chain a b=>uU .none a/\uU .none b/\bF a=false/\a≠aG/\a≠eps/\b≠aG/\b≠eps
 | _,.star a=>uU .none a/\a≠aG/\a≠eps/\oJ a=false
 | m,.not a=>uU .none a/\OI a=false/\(m≠Option.none->a≠aG)
 | _,.aZ k a b=>uU .none a/\dD k a=true/\a≠aG/\a≠whole/\uU (some k) b/\rG (memT k (.aZ k a b))/\mi (memT k (.aZ k a b))
abbrev Cn (t:Tm):Prop:=uU Option.none t
theorem uU.any {m:Option Bool}:∀ {t:Tm},uU m t->Cn t
 | .set _,h=>⟨h.1,fun e=>absurd rfl e⟩
 | .eps,_=>trivial
 | .chain _ _,h=>h
 | .star _,h=>h
 | .not _,h=>⟨h.1,h.2.1,fun e=>absurd rfl e⟩
 | .aZ _ _ _,h=>h
theorem uU.ok:∀ {m:Option Bool} {t:Tm},uU m t->jW t
 | _,.set _,h=>h.1
 | _,.eps,_=>trivial
 | _,.chain _ _,h=>⟨uU.ok h.1,uU.ok h.2.1⟩
 | _,.star a,h=>uU.ok (t:=a) h.1
 | _,.not a,h=>uU.ok (t:=a) h.1
 | _,.aZ _ _ _,h=>⟨uU.ok h.1,uU.ok h.2.2.2.2.1⟩
def Ux (k:Bool) (m:Tm):Prop:=Cn m/\dD k m=true/\m≠aG/\m≠whole
theorem uU.void {k:Bool}:∀ {t:Tm},uU (some k) t->t≠aG/\t≠whole
 | .set l,h=>⟨by intro e;cases e;exact h.2 (by simp) rfl,by simp⟩
 | .eps,_=>⟨by simp,by simp⟩
 | .chain _ _,_=>⟨by simp,by simp⟩
 | .star _,_=>⟨by simp,by simp⟩
 | .not a,h=>⟨by simp,by intro e;cases e;exact h.2.2 (by simp) rfl⟩
 | .aZ _ _ _,_=>⟨by simp,by simp⟩
theorem uU.rest {k:Bool} {t:Tm} (h:Cn t) (h1:t≠aG) (h2:t≠whole):uU (some k) t:=by
 cases t with
 | set l=>exact ⟨h.1,fun _ e=>h1 (by rw [e])⟩
 | eps=>trivial
 | chain a b=>exact h
 | star a=>exact h
 | not a=>exact ⟨h.1,h.2.1,fun _ e=>h2 (by rw [e])⟩
 | aZ k a b=>exact h
theorem bf {k:Bool} {t:Tm} (h:dD k t=true):memT k t=[t]:=by
 cases t with
 | aZ k' a b=>
  have:k'≠k:=by simpa [dD] using h
  rw [memT,if_neg this]
 | _=>rfl
theorem gX (k:Bool) (a b:Tm):memT k (.aZ k a b)=a::memT k b:=by rw [memT,if_pos rfl]
theorem uU.members {k:Bool}:∀ {t:Tm},uU (some k) t->∀ m∈memT k t,Ux k m
 | t,h=>by
  rcases iP k t with ⟨a,b,rfl⟩ | hn
  ·rw [gX]
   intro m hm
   rcases List.mem_cons.1 hm with rfl | hm
   ·exact ⟨h.1,h.2.1,h.2.2.1,h.2.2.2.1⟩
   ·exact uU.members (t:=b) h.2.2.2.2.1 m hm
  ·rw [bf hn]
   intro m hm
   simp at hm;subst hm
   exact ⟨h.any,hn,h.void.1,h.void.2⟩
 termination_by t=>t
theorem Cn.members {k:Bool} {t:Tm} (h:Cn t):∀ m∈memT k t,Cn m/\dD k m=true:=by
 rcases iP k t with ⟨a,b,rfl⟩ | hn
 ·intro m hm
  have:=uU.members (k:=k) (t:=.aZ k a b) h m hm
  exact ⟨this.1,this.2.1⟩
 ·rw [bf hn]
  intro m hm
  simp at hm;subst hm
  exact ⟨h,hn⟩
theorem iQ (k:Bool) (a:Tm) {l:List Tm} (h:l≠[]):gW k (a::l)=.aZ k a (gW k l):=by
 cases l with
 | nil=>exact absurd rfl h
 | cons b r=>rfl
theorem nE (k:Bool):∀ {l:List Tm},l≠[]->(∀ m∈l,dD k m=true)->memT k (gW k l)=l
 | [],h,_=>absurd rfl h
 | [a],_,hm=>bf (hm a (List.mem_cons_self ..))
 | a::b::r,_,hm=>by
  rw [iQ k a (by simp),gX,nE k (l:=b::r) (by simp) fun m h=>hm m (List.mem_cons_of_mem _ h)]
theorem v_ (k:Bool) (t:Tm):memT k t≠[]:=by
 cases t with
 | aZ k' a b=>rw [memT];split<;>simp
 | _=>simp [memT]
theorem Bp (k:Bool):∀ t:Tm,gW k (memT k t)=t
 | t=>by
  rcases iP k t with ⟨a,b,rfl⟩ | hn
  ·rw [gX,iQ k a (v_ k b),Bp k b]
  ·rw [bf hn];rfl
 termination_by t=>t
theorem IZ {a:Tm} {l:List Tm} (h:mi (a::l)):mi l:=by
 unfold mi at *
 rw [List.filterMap_cons] at h
 split at h
 ·exact h
 ·rw [List.length_cons] at h;omega
theorem OJ {k:Bool}:∀ {l:List Tm},l≠[]->(∀ m∈l,Ux k m)->rG l->mi l->uU (some k) (gW k l)
 | [],h,_,_,_=>absurd rfl h
 | [a],_,hm,_,_=>by
  have:=hm a (List.mem_cons_self ..)
  exact uU.rest this.1 this.2.2.1 this.2.2.2
 | a::b::r,_,hm,hs,ho=>by
  have ha:=hm a (List.mem_cons_self ..)
  have hm':∀ m∈b::r,Ux k m:=fun m h=>hm m (List.mem_cons_of_mem _ h)
  have ih:=OJ (l:=b::r) (by simp) hm' (List.pairwise_cons.1 hs).2 (IZ ho)
  have e:=nE k (l:=a::b::r) (by simp) fun m h=>(hm m h).2.1
  rw [iQ k a (by simp)] at e ⊢
  exact ⟨ha.1,ha.2.1,ha.2.2.1,ha.2.2.2,ih,by rw [e];exact hs,by rw [e];exact ho⟩
theorem MF (k:Bool):Cn (bC k):=by
 cases k
 ·exact ⟨trivial,fun e=>absurd rfl e⟩
 ·exact ⟨⟨trivial,fun e=>absurd rfl e⟩,rfl,fun e=>absurd rfl e⟩
theorem abb (k:Bool):Cn (ed k):=by
 cases k
 ·exact ⟨⟨trivial,fun e=>absurd rfl e⟩,rfl,fun e=>absurd rfl e⟩
 ·exact ⟨trivial,fun e=>absurd rfl e⟩
theorem MG {l:List Tm} (hn:l.Nodup) (h:∀ s s',Tm.set s∈l->Tm.set s'∈l->s=s'):mi l:=by
 unfold mi
 induction l with
 | nil=>simp
 | cons a l ih=>
  have hn':=List.nodup_cons.1 hn
  have ih':=ih hn'.2 fun s s' h1 h2=>h s s' (List.mem_cons_of_mem _ h1) (List.mem_cons_of_mem _ h2)
  rw [List.filterMap_cons]
  cases hs:aQ a with
  | none=>exact ih'
  | some s=>
   have ea:a=.set s:=by cases a<;>simp [aQ] at hs;rw [hs]
   have:l.filterMap aQ=[]:=by
    cases hq:l.filterMap aQ with
    | nil=>rfl
    | cons s' r=>
     have h2:Tm.set s'∈l:=b_.1 (by rw [hq];exact List.mem_cons_self ..)
     have e:=h s s' (by rw [ea];exact List.mem_cons_self ..) (List.mem_cons_of_mem _ h2)
     subst e
     rw [ea] at hn'
     exact absurd h2 hn'.1
   simp [this]
theorem xW {l:List Tm} (h:rG l):l.Nodup:=h.imp fun {a b} h e=>by
 subst e;rw [Bo] at h;exact absurd h (by simp)
theorem zT {l:List Tm} (h:rG l) (p:Tm->Bool):rG (l.filter p):=h.filter p
theorem lZ {t:Tm} {s:af} (h:aQ t=some s):t=.set s:=by cases t<;>simp [aQ] at h;rw [h]
theorem Gf {k:Bool} {f:List Tm} {s s':af} (h:Tm.set s∈aU k f) (h':Tm.set s'∈aU k f):s=s':=by
 rcases aP.1 h with ⟨_,h1⟩ | ⟨x,hx,e⟩
 ·simp [aQ] at h1
 ·rcases aP.1 h' with ⟨_,h1⟩ | ⟨y,hy,e'⟩
  ·simp [aQ] at h1
  ·rw [hx] at hy;cases hy;cases e;cases e';rfl
theorem abd {k:Bool} {l:List Tm} (hm:∀ m∈l,Cn m/\dD k m=true) (hs:rG l) (ho:∀ s s',Tm.set s∈l->Tm.set s'∈l->s=s'):Cn (qi k l):=by
 unfold qi
 split
 ·exact abb k
 rename_i hz
 split
 ·exact MF k
 ·rename_i hne
  refine (OJ hne (fun m h=>?_) (zT hs _) (MG (xW (zT hs _)) fun s s' h h'=>ho s s' (List.mem_filter.1 h).1 (List.mem_filter.1 h').1)).any
  have h':=List.mem_filter.1 h
  have hu:m≠bC k:=by simpa using h'.2
  have hzz:m≠ed k:=by rintro rfl;exact hz h'.1
  refine ⟨(hm m h'.1).1,(hm m h'.1).2,?_,?_⟩
  ·cases k
   ·exact hu
   ·exact hzz
  ·cases k
   ·exact hzz
   ·exact hu
theorem kH {k:Bool} {l:List Tm} (h:∀ t∈l,Cn t):Cn (aj k l):=by
 have hf:∀ m∈l.flatMap (memT k),Cn m/\dD k m=true:=by
  intro m hm
  obtain ⟨x,hx,hm⟩:=List.mem_flatMap.1 hm
  exact (h x hx).members m hm
 have hok:∀ m∈l.flatMap (memT k),jW m:=fun m hm=>(hf m hm).1.ok
 refine abd (fun m hm=>?_) (nD hok).2 (fun s s'=>Gf)
 rcases aP.1 hm with ⟨h1,_⟩ | ⟨s,hs,rfl⟩
 ·exact hf m h1
 ·exact ⟨⟨ql hs fun x hx=>(hf (.set x) (b_.1 hx)).1.1,fun e=>absurd rfl e⟩,rfl⟩
theorem eF:∀ (a b:Tm),Cn a->Cn b->Cn (ax a b)
 | a,b,ha,hb=>by
  rw [mR]
  split
  ·exact ⟨trivial,fun e=>absurd rfl e⟩
  rename_i h1
  split
  ·exact hb
  rename_i h2
  split
  ·exact ha
  rename_i h3
  have hv:a≠aG/\b≠aG:=⟨fun e=>h1 (.inl e),fun e=>h1 (.inr e)⟩
  cases a with
  | chain x y=>exact eF x _ ha.1 (eF y b ha.2.1 hb)
  | set l=>exact ⟨ha,hb,rfl,hv.1,h2,hv.2,h3⟩
  | eps=>exact absurd rfl h2
  | star a=>exact ⟨ha,hb,rfl,hv.1,h2,hv.2,h3⟩
  | not a=>exact ⟨ha,hb,rfl,hv.1,h2,hv.2,h3⟩
  | aZ k x y=>exact ⟨ha,hb,rfl,hv.1,h2,hv.2,h3⟩
 termination_by a=>a
theorem OL {a:Tm} (h:Cn a):Cn (gV a):=by
 unfold gV
 split
 ·trivial
 ·rename_i h1
  have h2:a≠aG/\a≠eps:=⟨fun e=>h1 (.inl e),fun e=>h1 (.inr e)⟩
  cases a with
  | star x=>exact h
  | set l=>exact ⟨h,h2.1,h2.2,rfl⟩
  | eps=>exact absurd rfl h2.2
  | chain x y=>exact ⟨h,h2.1,h2.2,rfl⟩
  | not x=>exact ⟨h,h2.1,h2.2,rfl⟩
  | aZ k x y=>exact ⟨h,h2.1,h2.2,rfl⟩
theorem Uy {a:Tm} (h:Cn a):Cn (ku a):=by
 cases a with
 | not x=>exact h.1
 | set l=>exact ⟨h,rfl,fun e=>absurd rfl e⟩
 | eps=>exact ⟨h,rfl,fun e=>absurd rfl e⟩
 | chain x y=>exact ⟨h,rfl,fun e=>absurd rfl e⟩
 | star x=>exact ⟨h,rfl,fun e=>absurd rfl e⟩
 | aZ k x y=>exact ⟨h,rfl,fun e=>absurd rfl e⟩
theorem zU:Cn aG:=MF false
theorem abe:Cn eps:=trivial
theorem fO (c:Int):∀ {m:Option Bool} {t:Tm},uU m t->Cn (aK c t)/\∀ k,m=some k->∀ x∈memT k t,Cn (aK c x)
 | m,.set l,h=>by
  have h0:Cn (aK c (.set l)):=by
   rw [jy];split
   ·trivial
   ·exact zU
  exact ⟨h0,fun k _ x hx=>by simp [memT] at hx;subst hx;exact h0⟩
 | m,.eps,_=>⟨zU,fun k _ x hx=>by simp [memT] at hx;subst hx;exact zU⟩
 | m,.chain a b,h=>by
  have ha:=eF _ b (fO c h.1).1 h.2.1
  have hb:=(fO c h.2.1).1
  have h0:Cn (aK c (.chain a b)):=by
   rw [fM];split
   ·refine kH fun t ht=>?_
    simp at ht
    rcases ht with rfl | rfl
    ·exact ha
    ·exact hb
   ·exact ha
  exact ⟨h0,fun k _ x hx=>by simp [memT] at hx;subst hx;exact h0⟩
 | m,.star a,h=>by
  have h0:Cn (aK c (.star a)):=eF _ _ (fO c (t:=a) h.1).1 h
  exact ⟨h0,fun k _ x hx=>by simp [memT] at hx;subst hx;exact h0⟩
 | m,.not a,h=>by
  have h0:Cn (aK c (.not a)):=Uy (fO c (t:=a) h.1).1
  exact ⟨h0,fun k _ x hx=>by simp [memT] at hx;subst hx;exact h0⟩
 | m,.aZ k' a b,h=>by
  have ha:=(fO c h.1).1
  have hb:=(fO c h.2.2.2.2.1).2
  have hall:∀ x∈memT k' (.aZ k' a b),Cn (aK c x):=by
   intro x hx
   rw [gX] at hx
   rcases List.mem_cons.1 hx with rfl | hx
   ·exact ha
   ·exact hb k' rfl x hx
  have h0:Cn (aK c (.aZ k' a b)):=by
   rw [pz]
   refine kH fun t ht=>?_
   obtain ⟨x,hx,rfl⟩:=List.mem_map.1 ht
   exact hall x hx
  refine ⟨h0,fun k _ x hx=>?_⟩
  by_cases e:k'=k
  ·subst e;exact hall x hx
  ·rw [memT,if_neg e] at hx
   simp at hx;subst hx;exact h0
theorem fH:∀ (w:List Int) {t:Tm},Cn t->Cn (aI t w)
 | [],_,h=>h
 | c::w,t,h=>fH w (t:=aK c t) (fO c h).1
theorem Ra {k:Bool} {l:List Tm} (hne:l≠[]) (h1:aG∉l) (h2:whole∉l):qi k l=gW k l:=by
 have hz:ed k∉l:=by cases k<;>assumption
 have hu:bC k∉l:=by cases k<;>assumption
 unfold qi
 rw [if_neg hz,List.filter_eq_self.2 (fun t ht=>by
  have:t≠bC k:=by rintro rfl;exact hu ht
  simpa using this)]
 cases l with
 | nil=>exact absurd rfl hne
 | cons a r=>rfl
theorem wh {k:Bool} {l:List Tm} (hok:∀ t∈l,jW t) (hs:rG l) (ho:mi l):aU k l=l:=by
 refine IY (nD hok).2 hs fun t=>?_
 rw [aP]
 cases hq:l.filterMap aQ with
 | nil=>
  simp only [fG,reduceCtorEq,false_and,exists_false,or_false]
  refine ⟨fun h=>h.1,fun h=>⟨h,?_⟩⟩
  cases hst:aQ t with
  | none=>rfl
  | some s=>
   rw [lZ hst] at h
   have:=b_.2 h
   rw [hq] at this;simp at this
 | cons s r=>
  have hr:r=[]:=by
   unfold mi at ho;rw [hq] at ho;simp at ho;exact ho
  subst hr
  simp only [fG,List.foldl_nil,Option.some.injEq,exists_eq_left']
  have hmem:Tm.set s∈l:=b_.1 (by rw [hq];exact List.mem_cons_self ..)
  constructor
  ·rintro (h | rfl)
   ·exact h.1
   ·exact hmem
  ·intro h
   cases hst:aQ t with
   | none=>exact .inl ⟨h,rfl⟩
   | some s'=>
    have e:=lZ hst
    rw [e] at h
    have:=b_.2 h
    rw [hq] at this
    simp at this
    subst this
    exact .inr e
theorem group_one' {k:Bool} {t:Tm} (h:Cn t):aj k [t]=t:=by
 rw [aj,List.flatMap_cons,List.flatMap_nil,List.append_nil]
 rcases iP k t with ⟨a,b,rfl⟩ | hn
 ·have hm:=uU.members (k:=k) (t:=.aZ k a b) h
  rw [wh (fun x hx=>(hm x hx).1.ok) h.2.2.2.2.2.1 h.2.2.2.2.2.2,Ra (v_ k _) (fun hv=>(hm _ hv).2.2.1 rfl) (fun hv=>(hm _ hv).2.2.2 rfl),Bp]
 ·rw [bf hn,wh (by simpa using h.ok) (by simp [rG]) (by unfold mi;exact Nat.le_trans (List.length_filterMap_le ..) (by simp))]
  unfold qi
  by_cases hz:t=ed k
  ·rw [if_pos (by simp [hz]),hz]
  ·rw [if_neg (by simpa using fun e=>hz e.symm)]
   by_cases hu:t=bC k
   ·rw [hu];simp
   ·simp [hu,gW]
inductive Pt where
 | set (l:List (Int×Int))
 | row (l:List Pt)
 | aZ (k:Bool) (l:List Pt)
 | not (a:Pt)
 | rep (a:Pt) (least:Nat) (most:Option Nat)
def kI (l:List Tm):Tm:=l.foldr ax eps
def pF (t:Tm):Tm:=aj false [eps,t]
def nZ (t:Tm) (n:Nat):Option Nat->Tm
 | Option.none=>(List.replicate n t).foldr ax (gV t)
 | some m=>(List.replicate n t).foldr ax (kI (List.replicate (m - n) (pF t)))
mutual
def cZ:Pt->Tm
 | .set l=>.set l
 | .row l=>kI (wo l)
 | .aZ k l=>aj k (wo l)
 | .not a=>ku (cZ a)
 | .rep a n m=>nZ (cZ a) n m
def wo:List Pt->List Tm
 | []=>[]
 | p::r=>cZ p::wo r
end
theorem Bq:∀ l:List Pt,wo l=l.map cZ
 | []=>by rw [wo];rfl
 | p::r=>by rw [wo,Bq r];rfl
mutual
def tC:Pt->Prop
 | .set l=>Tidy l
 | .row l=>DU l
 | .aZ _ l=>DU l
 | .not a=>tC a
 | .rep a _ _=>tC a
def DU:List Pt->Prop
 | []=>True
 | p::r=>tC p/\DU r
end
theorem wu {l:List Tm} {t:Tm} (hl:∀ x∈l,Cn x) (ht:Cn t):Cn (l.foldr ax t):=by
 induction l with
 | nil=>exact ht
 | cons x l ih=>exact eF _ _ (hl x (List.mem_cons_self ..)) (ih fun y hy=>hl y (List.mem_cons_of_mem _ hy))
theorem Uz {t:Tm} (h:Cn t):Cn (pF t):=kH fun x hx=>by
 simp at hx
 rcases hx with rfl | rfl
 ·trivial
 ·exact h
theorem abf {t:Tm} (h:Cn t) (n:Nat) (m:Option Nat):Cn (nZ t n m):=by
 have hr:∀ x∈List.replicate n t,Cn x:=fun x hx=>by rw [(List.mem_replicate.1 hx).2];exact h
 cases m with
 | none=>exact wu hr (OL h)
 | some m=>exact wu hr (wu (fun x hx=>by rw [(List.mem_replicate.1 hx).2];exact Uz h) trivial)
mutual
theorem rH:∀ {p:Pt},tC p->Cn (cZ p)
 | .set l,h=>by rw [tC] at h;rw [cZ];exact ⟨h,fun e=>absurd rfl e⟩
 | .row l,h=>by rw [tC] at h;rw [cZ];exact wu (Gg h) trivial
 | .aZ k l,h=>by rw [tC] at h;rw [cZ];exact kH (Gg h)
 | .not a,h=>by rw [tC] at h;rw [cZ];exact Uy (rH h)
 | .rep a n m,h=>by rw [tC] at h;rw [cZ];exact abf (rH h) n m
theorem Gg:∀ {l:List Pt},DU l->∀ t∈wo l,Cn t
 | [],_=>by rw [wo];simp
 | p::r,h=>by
  rw [DU] at h
  rw [wo]
  have hp:=rH h.1
  have hr:=Gg h.2
  intro t ht
  rcases List.mem_cons.1 ht with rfl | ht
  ·exact hp
  ·exact hr t ht
end
end Go.Proofs.YtfolanohokflkaaGreatDoor
namespace Go.Proofs.YtfolanohokflkaaGreatDoor
abbrev Pn:=Pt×Int
abbrev jX:=Nat×Option Nat×Int
def gN (n:Nat) (m:jX) (l:List Sy):bn jX:=if hd l=125 then .ok (m,l.tail) else bad 2 n l
def ja (n:Nat) (l:List Sy):bn jX:=
 match bQ n 0 l with
 | .error x=>.error x
 | .ok (a,l1)=>
  if hd l1=44 then
   (if hd l1.tail=125 then .ok ((a.toNat,none,a+1),l1.tail.tail)
    else match bQ n a l1.tail with
     | .error x=>.error x
     | .ok (m,l2)=>gN n (a.toNat,some m.toNat,ko m) l2)
  else gN n (a.toNat,some a.toNat,ko a) l1
def eQ (n:Nat) (l:List Sy):bn jX:=
 if hd l=123 then ja n l.tail
 else if hd l=42 then .ok ((0,none,2),l.tail)
 else if hd l=43 then .ok ((1,none,2),l.tail)
 else .ok ((0,some 1,2),l.tail)
def zV:af:=[(48,57)]
def wy:af:=[(48,57),(65,90),(95,95),(97,122)]
def jN (l:List Sy):af:=if hd l.tail=100 then zV else wy
def kJ (n:Nat) (l:List Sy):bn af:=
 if isSet l=true then .ok (jN l,l.tail.tail)
 else match eZ n l with
  | .error x=>.error x
  | .ok (a,l1)=>
   if hd l1=45 then (match eZ n l1.tail with
    | .error x=>.error x
    | .ok (b,l2)=>if b<a then bad 3 n l2 else .ok ([(a,b)],l2))
   else .ok ([(a,a)],l1)
def bP (n:Nat):Nat->af->List Sy->bn af
 | 0,_,l=>bad 2 n l
 | f+1,s,l=>if hd l=93 then .ok (s,l.tail) else match kJ n l with
  | .error x=>.error x
  | .ok (p,l1)=>bP n f (qR s p) l1
def Br:bn af->bn af
 | .error x=>.error x
 | .ok (s,l)=>.ok (fE s,l)
def jO (n:Nat) (l:List Sy):bn af:=
 if hd l=94 then Br (bP n (l.length+1) [] l.tail) else bP n (l.length+1) [] l
def Gh:af:=fE []
def Rb:bn Int->bn af
 | .error x=>.error x
 | .ok (c,l)=>.ok ([(c,c)],l)
def fZ (n:Nat) (l:List Sy):bn af:=
 if hd l=91 then jO n l.tail
 else if hd l=92 then (if isSet l=true then .ok (jN l,l.tail.tail) else Rb (fC n l.tail))
 else if hd l=46 then .ok (Gh,l.tail)
 else if hd l<0\/mZ (hd l)=true then bad 2 n l
 else .ok ([(hd l,hd l)],l.tail)
def oo:bn af->bn Pn
 | .error x=>.error x
 | .ok (s,l)=>.ok ((.set s,1),l)
def I1 (p:Pn) (o:jX):Pn:=(.rep p.1 o.1 o.2.1,dA (p.2*o.2.2))
def I4 (p:Pn):Pn:=(.not p.1,dA (p.2+1))
def kK (n:Nat):Nat->Pn->List Sy->bn Pn
 | 0,_,l=>bad 2 n l
 | f+1,z,l=>if mE (hd l)=true then (match eQ n l with
   | .error x=>.error x
   | .ok (m,l1)=>kK n f (I1 z m) l1)
  else .ok (z,l)
def dW (n:Nat) (atom:List Sy->bn Pn):Nat->List Sy->bn Pn
 | 0,l=>bad 2 n l
 | f+1,l=>if hd l=126 then (match dW n atom f l.tail with
   | .error x=>.error x
   | .ok (z,l1)=>.ok (I4 z,l1))
  else match atom l with
   | .error x=>.error x
   | .ok (z,l1)=>kK n (l1.length+1) z l1
def dH:List Pn->Int
 | []=>0
 | p::r=>p.2+dH r
def fI (l:List Pn):Pn:=match l with
 | [p]=>p
 | l=>(.row (l.map Prod.fst),if l.length=0 then 1 else min (((l.length:Int) - 1)+dH l) 61)
def jg (k:Bool) (l:List Pn):Pn:=match l with
 | [p]=>p
 | l=>(.aZ k (l.map Prod.fst),min (((l.length:Int) - 1)+dH l) 61)
def bL (n:Nat) (atom:List Sy->bn Pn):Nat->List Pn->List Sy->bn (List Pn)
 | 0,_,l=>bad 2 n l
 | f+1,z,l=>if kC (hd l)=true then .ok (z,l) else match dW n atom (l.length+1) l with
  | .error x=>.error x
  | .ok (y,l1)=>bL n atom f (z++[y]) l1
def oK {a b:Type} (g:a->b):bn a->bn b
 | .error x=>.error x
 | .ok (v,l)=>.ok (g v,l)
def rowP (n:Nat) (atom:List Sy->bn Pn) (l:List Sy):bn Pn:=
 if kC (hd l)=true then .ok (fI [],l) else match dW n atom (l.length+1) l with
  | .error x=>.error x
  | .ok (y,l1)=>oK fI (bL n atom (l1.length+1) [y] l1)
def bM (n:Nat) (sub:List Sy->bn Pn) (sign:Int):Nat->List Pn->List Sy->bn (List Pn)
 | 0,_,l=>bad 2 n l
 | f+1,z,l=>if hd l=sign then (match sub l.tail with
   | .error x=>.error x
   | .ok (y,l1)=>bM n sub sign f (z++[y]) l1)
  else .ok (z,l)
def qU (n:Nat) (sub:List Sy->bn Pn) (sign:Int) (g:List Pn->Pn) (l:List Sy):bn Pn:=
 match sub l with
 | .error x=>.error x
 | .ok (y,l1)=>oK g (bM n sub sign (l1.length+1) [y] l1)
def aaA (n:Nat) (atom:List Sy->bn Pn):List Sy->bn Pn:=qU n (rowP n atom) 38 (jg true)
def fJ (n:Nat) (atom:List Sy->bn Pn):List Sy->bn Pn:=qU n (aaA n atom) 124 (jg false)
def I5 (n:Nat):bn Pn->bn Pn
 | .error x=>.error x
 | .ok (z,l)=>if hd l=41 then .ok (z,l.tail) else bad 2 n l
def ek (n:Nat):Nat->List Sy->bn Pn
 | 0,l=>if hd l=40 then bad 4 n l else oo (fZ n l)
 | k+1,l=>if hd l=40 then I5 n (fJ n (ek n k) l.tail) else oo (fZ n l)
def pG (n:Nat):bn Pn->Except (Int×Int) Pt
 | .error x=>.error x
 | .ok (z,l)=>if hd l<0 then (if 60<z.2 then .error (5,0) else .ok z.1) else .error (2,AL n l)
def bG (s:ByteArray):Except (Int×Int) Pt:=if 60<s.size then .error (1,0) else pG s.size (fJ s.size (ek s.size 8) (ai s 0))
def UA:Except (Int×Int) Pt->Int×Int
 | .error x=>x
 | .ok _=>(0,0)
theorem Bu (s:ByteArray) (i:Nat):aF ((Utf8.decode s i).1:Int)=true:=by
 have h:=FK s i
 have e:((Utf8.decode s i).1:Int)=(Oo s i).1:=by rw [h]
 rw [e]
 have hend:∀ (size:Nat) (least:Int) (o:Option Int),aF (mY size least o).1=true:=by
  intro size least o
  cases o with
  | none=>rfl
  | some n=>
   rw [mY]
   split
   ·rfl
   ·split
    ·assumption
    ·rfl
 unfold Oo
 simp only []
 have g0:=(s.get! i).toNat_lt
 split
 ·rw [aD];simp only [];omega
 ·repeat' split
  all_goals first | exact hend _ _ _ | rfl
def bg (l:List Sy):Prop:=∀ x∈l,aF (x.c:Int)=true
theorem bg.tail {l:List Sy} (h:bg l):bg l.tail:=fun x hx=>h x (List.mem_of_mem_tail hx)
theorem bg.hd {l:List Sy} (h:bg l) (h0:¬ hd l<0):aF (hd l)=true:=by
 cases l with
 | nil=>exact absurd (by decide) h0
 | cons x r=>exact h x (List.mem_cons_self ..)
theorem Bv (s:ByteArray):∀ (f p:Nat),bg (jm s f p)
 | 0,_=>by intro x hx;simp [jm] at hx
 | f+1,p=>by
  rw [jm]
  split
  ·intro x hx
   rcases List.mem_cons.1 hx with rfl | hx
   ·exact Bu s p
   ·exact Bv s f _ x hx
  ·intro x hx;simp at hx
theorem kL (s:ByteArray) (p:Nat):bg (ai s p):=Bv s _ p
def Good {a:Type} (P:a->Prop) (r:bn a):Prop:=∀ v l,r=.ok (v,l)->P v/\bg l
theorem Good.bad {a:Type} {P:a->Prop} {e:Int} {n:Nat} {l:List Sy}:Good P (bad e n l):=fun _ _ h=>by simp [Go.Proofs.YtfolanohokflkaaGreatDoor.bad] at h
theorem Good.err {a:Type} {P:a->Prop} {x:Int×Int}:Good P (.error x:bn a):=fun _ _ h=>by cases h
theorem Good.ok {a:Type} {P:a->Prop} {v:a} {l:List Sy} (h:P v) (hl:bg l):Good P (.ok (v,l)):=fun _ _ e=>by cases e;exact ⟨h,hl⟩
theorem Good.map {a b:Type} {P:a->Prop} {Q:b->Prop} {g:a->b} {r:bn a} (h:Good P r) (hg:∀ v,P v->Q (g v)):Good Q (oK g r):=by
 cases r with
 | error x=>exact Good.err
 | ok y=>
  obtain ⟨v,l⟩:=y
  have:=h v l rfl
  exact Good.ok (hg v this.1) this.2
theorem yX {n:Nat} {least:Int} {l:List Sy} (h:bg l):Good (fun _=>True) (bQ n least l):=by
 unfold bQ
 split
 ·split
  ·exact Good.bad
  ·intro v l' e
   refine ⟨trivial,?_⟩
   simp only [Except.ok.injEq] at e
   have e2:(kT l).2=l':=by rw [e]
   rw [<-e2]
   unfold kT
   split
   ·exact h.tail.tail
   ·exact h.tail
 ·exact Good.bad
theorem Bw {n:Nat} {m:jX} {l:List Sy} (h:bg l):Good (fun _=>True) (gN n m l):=by
 unfold gN;split
 ·exact Good.ok trivial h.tail
 ·exact Good.bad
theorem I6 {n:Nat} {l:List Sy} (h:bg l):Good (fun _=>True) (ja n l):=by
 unfold ja
 have g:=yX (n:=n) (least:=0) h
 split
 ·exact Good.err
 ·rename_i a l1 e
  have h1:=(g _ _ e).2
  split
  ·split
   ·exact Good.ok trivial h1.tail.tail
   ·have g2:=yX (n:=n) (least:=a) h1.tail
    split
    ·exact Good.err
    ·rename_i m l2 e2
     exact Bw (g2 _ _ e2).2
  ·exact Bw h1
theorem oq {n:Nat} {l:List Sy} (h:bg l):Good (fun _=>True) (eQ n l):=by
 unfold eQ
 split
 ·exact I6 h.tail
 ·split
  ·exact Good.ok trivial h.tail
  ·split
   ·exact Good.ok trivial h.tail
   ·exact Good.ok trivial h.tail
abbrev YD (c:Int):Prop:=aF c=true
theorem I7:∀ (f:Nat) (v:Int) (k:Nat) {l:List Sy},bg l->bg (uG f v k l).2.2
 | 0,_,_,_,h=>h
 | f+1,v,k,l,h=>by
  rw [uG];split
  ·exact I7 f _ _ h.tail
  ·exact h
theorem Rc {n:Nat} {l:List Sy} (h:bg l):Good YD (oV n l):=by
 unfold oV
 split
 ·unfold lL
  split
  ·exact Good.bad
  ·split
   ·rename_i hs
    exact Good.ok hs (I7 6 0 0 h.tail).tail
   ·exact Good.bad
 ·exact Good.bad
theorem YE {c:Int} (h:q9 c=true):¬ c<0:=by
 unfold q9 mZ at h
 simp at h;omega
theorem rJ {n:Nat} {l:List Sy} (h:bg l):Good YD (fC n l):=by
 unfold fC
 split
 ·exact Rc h.tail
 ·split
  ·exact Good.ok (by decide) h.tail
  ·split
   ·rename_i he
    exact Good.ok (h.hd (YE he)) h.tail
   ·exact Good.bad
theorem qm {n:Nat} {l:List Sy} (h:bg l):Good YD (eZ n l):=by
 unfold eZ
 split
 ·exact rJ h.tail
 ·split
  ·exact Good.bad
  ·rename_i hn
   exact Good.ok (h.hd (fun e=>hn (.inl e))) h.tail
theorem Gi {c:Int} (h:aF c=true):0<=c:=(aD.1 h).1
theorem OM {a b:Int} (ha:aF a=true) (hb:aF b=true):Pos [(a,b)]:=fun x hx=>by simp at hx;subst hx;exact ⟨Gi ha,Gi hb⟩
theorem Bz {a:Int} (h:aF a=true):Tidy [(a,a)]:=⟨by show -1<a;have:=Gi h;omega,h,h,Int.le_refl _,trivial⟩
theorem wB (l:List Sy):Tidy (jN l):=by unfold jN;split<;>simp [zV,wy,Tidy,eD,aF,kD]
theorem Eu {n:Nat} {l:List Sy} (h:bg l):Good Pos (kJ n l):=by
 unfold kJ
 split
 ·exact Good.ok (wB l).pos h.tail.tail
 ·have g:=qm (n:=n) h
  split
  ·exact Good.err
  ·rename_i a l1 e
   obtain ⟨ha,h1⟩:=g _ _ e
   split
   ·have g2:=qm (n:=n) h1.tail
    split
    ·exact Good.err
    ·rename_i b l2 e2
     obtain ⟨hb,h2⟩:=g2 _ _ e2
     split
     ·exact Good.bad
     ·exact Good.ok (OM ha hb) h2
   ·exact Good.ok (OM ha ha) h1
theorem kM {n:Nat}:∀ (f:Nat) {s:af} {l:List Sy},Tidy s->bg l->Good Tidy (bP n f s l)
 | 0,_,_,_,_=>Good.bad
 | f+1,s,l,hs,h=>by
  rw [bP]
  split
  ·exact Good.ok hs h.tail
  ·have g:=Eu (n:=n) h
   split
   ·exact Good.err
   ·rename_i p l1 e
    obtain ⟨hp,h1⟩:=g _ _ e
    exact kM f (iY hs.pos hp) h1
theorem MH {n:Nat} {l:List Sy} (h:bg l):Good Tidy (jO n l):=by
 unfold jO
 split
 ·have g:=kM (n:=n) (l.length+1) (s:=[]) trivial h.tail
  unfold Br
  split
  ·exact Good.err
  ·rename_i s l1 e
   obtain ⟨hs,h1⟩:=g _ _ e
   exact Good.ok (dC hs.pos) h1
 ·exact kM _ trivial h
theorem Re {n:Nat} {l:List Sy} (h:bg l):Good Tidy (fZ n l):=by
 unfold fZ
 split
 ·exact MH h.tail
 split
 ·split
  ·exact Good.ok (wB l) h.tail.tail
  ·have g:=rJ (n:=n) h.tail
   unfold Rb
   split
   ·exact Good.err
   ·rename_i c l1 e
    obtain ⟨hc,h1⟩:=g _ _ e
    exact Good.ok (Bz hc) h1
 split
 ·exact Good.ok (dC oh) h.tail
 split
 ·exact Good.bad
 ·rename_i hn
  exact Good.ok (Bz (h.hd fun e=>hn (.inl e))) h.tail
abbrev uV (p:Pn):Prop:=tC p.1
abbrev eU (a:List Sy->bn Pn):Prop:=∀ l,bg l->Good uV (a l)
theorem Ev {n:Nat} {l:List Sy} (h:bg l):Good uV (oo (fZ n l)):=by
 have g:=Re (n:=n) h
 unfold oo
 split
 ·exact Good.err
 ·rename_i s l1 e
  obtain ⟨hs,h1⟩:=g _ _ e
  exact Good.ok (by show tC (.set s);rw [tC];exact hs) h1
theorem Ew {n:Nat}:∀ (f:Nat) {z:Pn} {l:List Sy},uV z->bg l->Good uV (kK n f z l)
 | 0,_,_,_,_=>Good.bad
 | f+1,z,l,hz,h=>by
  rw [kK]
  split
  ·have g:=oq (n:=n) h
   split
   ·exact Good.err
   ·rename_i m l1 e
    exact Ew f (by show tC (.rep z.1 m.1 m.2.1);rw [tC];exact hz) (g _ _ e).2
  ·exact Good.ok hz h
theorem jb {n:Nat} {a:List Sy->bn Pn} (ha:eU a):∀ (f:Nat) {l:List Sy},bg l->Good uV (dW n a f l)
 | 0,_,_=>Good.bad
 | f+1,l,h=>by
  rw [dW]
  split
  ·have g:=jb (n:=n) ha f h.tail
   split
   ·exact Good.err
   ·rename_i z l1 e
    obtain ⟨hz,h1⟩:=g _ _ e
    exact Good.ok (by show tC (.not z.1);rw [tC];exact hz) h1
  ·have g:=ha l h
   split
   ·exact Good.err
   ·rename_i z l1 e
    obtain ⟨hz,h1⟩:=g _ _ e
    exact Ew _ hz h1
theorem BA:∀ {l:List Pn},DU (l.map Prod.fst)↔∀ p∈l,uV p
 | []=>by simp [DU]
 | p::r=>by rw [List.map_cons,DU,BA];simp
theorem I8 {l:List Pn} (h:∀ p∈l,uV p):uV (fI l):=by
 unfold fI
 split
 ·exact h _ (List.mem_cons_self ..)
 ·show tC (.row _);rw [tC,BA];exact h
theorem I9 {k:Bool} {l:List Pn} (h:∀ p∈l,uV p):uV (jg k l):=by
 unfold jg
 split
 ·exact h _ (List.mem_cons_self ..)
 ·show tC (.aZ k _);rw [tC,BA];exact h
theorem OO {z:List Pn} {y:Pn} (hz:∀ p∈z,uV p) (hy:uV y):∀ p∈z++[y],uV p:=by
 intro p hp
 rcases List.mem_append.1 hp with hp | hp
 ·exact hz p hp
 ·simp at hp;subst hp;exact hy
theorem mJ {n:Nat} {a:List Sy->bn Pn} (ha:eU a):∀ (f:Nat) {z:List Pn} {l:List Sy},(∀ p∈z,uV p)->bg l->Good (fun z=>∀ p∈z,uV p) (bL n a f z l)
 | 0,_,_,_,_=>Good.bad
 | f+1,z,l,hz,h=>by
  rw [bL]
  split
  ·exact Good.ok hz h
  ·have g:=jb (n:=n) ha (l.length+1) h
   split
   ·exact Good.err
   ·rename_i y l1 e
    obtain ⟨hy,h1⟩:=g _ _ e
    exact mJ ha f (OO hz hy) h1
theorem xX {y:Pn} (hy:uV y):∀ p∈[y],uV p:=by intro p hp;simp at hp;subst hp;exact hy
theorem good_row {n:Nat} {a:List Sy->bn Pn} (ha:eU a):eU (rowP n a):=by
 intro l h
 unfold rowP
 split
 ·exact Good.ok (I8 (by simp)) h
 ·have g:=jb (n:=n) ha (l.length+1) h
  split
  ·exact Good.err
  ·rename_i y l1 e
   obtain ⟨hy,h1⟩:=g _ _ e
   exact (mJ ha (l1.length+1) (xX hy) h1).map fun _ hv=>I8 hv
theorem mK {n:Nat} {a:List Sy->bn Pn} (ha:eU a) (sg:Int):∀ (f:Nat) {z:List Pn} {l:List Sy},(∀ p∈z,uV p)->bg l->Good (fun z=>∀ p∈z,uV p) (bM n a sg f z l)
 | 0,_,_,_,_=>Good.bad
 | f+1,z,l,hz,h=>by
  rw [bM]
  split
  ·have g:=ha l.tail h.tail
   split
   ·exact Good.err
   ·rename_i y l1 e
    obtain ⟨hy,h1⟩:=g _ _ e
    exact mK ha sg f (OO hz hy) h1
  ·exact Good.ok hz h
theorem I_ {n:Nat} {a:List Sy->bn Pn} (ha:eU a) (sg:Int) {g:List Pn->Pn} (hg:∀ z,(∀ p∈z,uV p)->uV (g z)):eU (qU n a sg g):=by
 intro l h
 unfold qU
 have g1:=ha l h
 split
 ·exact Good.err
 ·rename_i y l1 e
  obtain ⟨hy,h1⟩:=g1 _ _ e
  exact (mK ha sg (l1.length+1) (xX hy) h1).map hg
theorem tF {n:Nat} {a:List Sy->bn Pn} (ha:eU a):eU (aaA n a):=I_ (good_row ha) 38 fun _ hv=>I9 hv
theorem yY {n:Nat} {a:List Sy->bn Pn} (ha:eU a):eU (fJ n a):=I_ (tF ha) 124 fun _ hv=>I9 hv
theorem jY {n:Nat}:∀ k:Nat,eU (ek n k)
 | 0=>by
  intro l h
  rw [ek]
  split
  ·exact Good.bad
  ·exact Ev h
 | k+1=>by
  intro l h
  rw [ek]
  split
  ·have g:=yY (n:=n) (jY (n:=n) k) l.tail h.tail
   unfold I5
   split
   ·exact Good.err
   ·rename_i z l1 e
    obtain ⟨hz,h1⟩:=g _ _ e
    split
    ·exact Good.ok hz h1.tail
    ·exact Good.bad
  ·exact Ev h
theorem wC {s:ByteArray} {q:Pt} (h:bG s=.ok q):tC q:=by
 unfold bG at h
 split at h
 ·cases h
 ·have g:=yY (n:=s.size) (jY (n:=s.size) 8) (ai s 0) (kL s 0)
  unfold pG at h
  split at h
  ·cases h
  ·rename_i z l e
   obtain ⟨hz,_⟩:=g _ _ e
   split at h
   ·split at h
    ·cases h
    ·cases h;exact hz
   ·cases h
end Go.Proofs.YtfolanohokflkaaGreatDoor
