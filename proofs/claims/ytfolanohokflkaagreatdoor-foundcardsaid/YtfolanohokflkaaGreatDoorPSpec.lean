import Derived.Test.YtfolanohokflkaaGreatDoorSvF
import Derived.Test.YtfolanohokflkaaGreatDoorDec
namespace Go.Proofs.YtfolanohokflkaaGreatDoor
inductive Tm where
 | set (l:List (Int×Int))
 | eps
 | chain (a b:Tm)
 | star (a:Tm)
 | not (a:Tm)
 | bf (k:Bool) (a b:Tm)
deriving DecidableEq
abbrev aH:Tm:=.set []
abbrev whole:Tm:=.not (.set [])
open Tm (eps)
def IL (d:Nat):UInt8:=if d<10 then UInt8.ofNat (48+d) else UInt8.ofNat (87+d)
def Gf:Nat->Nat->List UInt8->List UInt8
 | 0,_,acc=>acc
 | f+1,n,acc=>if n / 16=0 then IL (n % 16)::acc else Gf f (n / 16) (IL (n % 16)::acc)
def IM (n:Nat):List UInt8:=Gf (n+1) n []
def nA:af->List UInt8
 | []=>[]
 | x::r=>IM x.1.toNat++(45::(IM x.2.toNat++(44::nA r)))
def sign (k:Bool):UInt8:=if k=true then 38 else 124
def di:Option Bool->Tm->List UInt8
 | _,.set l=>91::(nA l++[93])
 | _,.eps=>[101]
 | _,.chain a b=>46::(di .none a++di .none b)
 | _,.star a=>42::di .none a
 | _,.not a=>126::di .none a
 | m,.bf k a b=>if m=some k then di .none a++di (some k) b else sign k::(di .none a++(di (some k) b++[59]))
abbrev rend (t:Tm):List UInt8:=di Option.none t
def Od:List UInt8->List UInt8->Bool
 | [],_=>false
 | _::_,[]=>true
 | x::r,y::s=>if x=y then Od r s else decide (y<x)
def SH (a b:Tm):Bool:=Od (rend a) (rend b)
def bG:Tm->Bool
 | .chain _ _=>true
 | _=>false
def ay:Tm->Tm->Tm
 | .chain x y,b=>if b=aH then aH else if b=eps then .chain x y else ay x (ay y b)
 | .set l,b=>if .set l=aH\/b=aH then aH else if b=eps then .set l else .chain (.set l) b
 | .eps,b=>b
 | .star a,b=>if b=aH then aH else if b=eps then .star a else .chain (.star a) b
 | .not a,b=>if b=aH then aH else if b=eps then .not a else .chain (.not a) b
 | .bf k x y,b=>if b=aH then aH else if b=eps then .bf k x y else .chain (.bf k x y) b
def gY (a:Tm):Tm:=if a=aH\/a=eps then eps else match a with
 | .star x=>.star x
 | x=>.star x
def kg:Tm->Tm
 | .not a=>a
 | a=>.not a
def memT (k:Bool):Tm->List Tm
 | .bf k' a b=>if k'=k then a::memT k b else [.bf k' a b]
 | t=>[t]
def gZ (k:Bool):List Tm->Tm
 | []=>aH
 | [a]=>a
 | a::r=>.bf k a (gZ k r)
def bD (k:Bool):Tm:=if k=true then whole else aH
def eB (k:Bool):Tm:=if k=true then aH else whole
def aR:Tm->Option af
 | .set l=>some l
 | _=>Option.none
def gN (k:Bool) (a b:af):af:=if k=true then Iw a b else qH a b
def fJ (k:Bool):List af->Option af
 | []=>Option.none
 | s::r=>some (r.foldl (gN k) s)
def zH (f:List Tm):List Tm:=f.filter fun t=>(aR t).isNone
def outs (f:List Tm):List Tm:=(zH f).foldl (fun l t=>oV SH t l) []
def aV (k:Bool) (f:List Tm):List Tm:=match fJ k (f.filterMap aR) with
 | Option.none=>outs f
 | some s=>oV SH (.set s) (outs f)
def p_ (k:Bool) (out:List Tm):Tm:=if eB k∈out then eB k else match out.filter (fun t=>decide (t≠bD k)) with
 | []=>bD k
 | l=>gZ k l
def aj (k:Bool) (l:List Tm):Tm:=p_ k (aV k (l.flatMap (memT k)))
def cB:Tm->Bool
 | .set _=>false
 | .eps=>true
 | .chain a b=>cB a&&cB b
 | .star _=>true
 | .not a=>!cB a
 | .bf k a b=>if k=true then cB a&&cB b else cB a||cB b
def uJ:List Tm->Tm
 | t::_=>t
 | []=>aH
def qa (c:Int):Option Bool->Tm->List Tm
 | _,.set l=>[if dw l c=true then eps else aH]
 | _,.eps=>[aH]
 | _,.chain a b=>[if cB a=true then aj false [ay (uJ (qa c .none a)) b,uJ (qa c .none b)] else ay (uJ (qa c .none a)) b]
 | _,.star a=>[ay (uJ (qa c .none a)) (.star a)]
 | _,.not a=>[kg (uJ (qa c .none a))]
 | m,.bf k a b=>if m=some k then uJ (qa c .none a)::qa c (some k) b else [aj k (uJ (qa c .none a)::qa c (some k) b)]
def aL (c:Int) (t:Tm):Tm:=uJ (qa c Option.none t)
theorem IP (c:Int) (k:Bool):∀ t:Tm,qa c (some k) t=(memT k t).map (aL c)
 | .set l=>by simp [qa,memT,aL,uJ]
 | .eps=>by simp [qa,memT,aL,uJ]
 | .chain a b=>by simp [qa,memT,aL,uJ]
 | .star a=>by simp [qa,memT,aL,uJ]
 | .not a=>by simp [qa,memT,aL,uJ]
 | .bf k' a b=>by
  have ih:=IP c k b
  rw [qa,memT]
  by_cases h:k'=k
  ·subst h
   rw [if_pos rfl,if_pos rfl,ih];rfl
  ·rw [if_neg h,if_neg (by simpa using fun e=>h e.symm)]
   simp [aL,qa,uJ]
theorem jC (c:Int) (l:af):aL c (.set l)=if dw l c=true then eps else aH:=rfl
theorem AP (c:Int):aL c eps=aH:=rfl
theorem fQ (c:Int) (a b:Tm):aL c (.chain a b)=if cB a=true then aj false [ay (aL c a) b,aL c b] else ay (aL c a) b:=rfl
theorem sN (c:Int) (a:Tm):aL c (.star a)=ay (aL c a) (.star a):=rfl
theorem vM (c:Int) (a:Tm):aL c (.not a)=kg (aL c a):=rfl
theorem o8 (c:Int) (k:Bool) (a b:Tm):aL c (.bf k a b)=aj k ((memT k (.bf k a b)).map (aL c)):=by
 rw [memT,if_pos rfl,List.map_cons,<-IP]
 simp [aL,qa,uJ]
theorem mV (a b:Tm):ay a b=if a=aH\/b=aH then aH else if a=eps then b else if b=eps then a else match a with
  | .chain x y=>ay x (ay y b)
  | a=>.chain a b:=by
 cases a with
 | set l=>by_cases h:l=[]<;>simp [ay,h]
 | eps=>by_cases h:b=aH<;>simp [ay,h]
 | chain x y=>simp [ay]
 | star a=>simp [ay]
 | not a=>simp [ay]
 | bf k x y=>simp [ay]
theorem aS (b:Tm):ay aH b=aH:=by rw [mV];simp
theorem aI (a:Tm):ay a aH=aH:=by rw [mV];simp
theorem bz (b:Tm):ay eps b=b:=by cases b<;>rfl
theorem ai (a:Tm):ay a eps=a:=by
 rw [mV]
 by_cases h:a=aH
 ·simp [h]
 ·by_cases h2:a=eps<;>simp [h,h2]
inductive Star (P:List Int->Prop):List Int->Prop where
 | nil:Star P []
 | more {u v:List Int}:P u->Star P v->Star P (u++v)
def wd:Tm->List Int->Prop
 | .set l,w=>∃ c,w=[c]/\dw l c=true
 | .eps,w=>w=[]
 | .chain a b,w=>∃ u v,w=u++v/\wd a u/\wd b v
 | .star a,w=>Star (wd a) w
 | .not a,w=>¬ wd a w
 | .bf k a b,w=>if k=true then wd a w/\wd b w else wd a w\/wd b w
def iq (w:List Int):Prop:=∀ c∈w,aG c=true
theorem iq.left {u v:List Int} (h:iq (u++v)):iq u:=fun c hc=>h c (List.mem_append_left _ hc)
theorem vN {w:List Int}:¬ wd aH w:=by rintro ⟨c,_,h⟩;simp [dw] at h
theorem vO {w:List Int}:wd whole w:=vN
def o9 (k:Bool) (l:List Tm) (w:List Int):Prop:=if k=true then ∀ t∈l,wd t w else ∃ t∈l,wd t w
theorem nC (k:Bool) (t:Tm) (l:List Tm) (w:List Int):o9 k (t::l) w↔if k=true then wd t w/\o9 k l w else wd t w\/o9 k l w:=by
 cases k<;>simp [o9]
theorem AQ (k:Bool) (l m:List Tm) (w:List Int):o9 k (l++m) w↔if k=true then o9 k l w/\o9 k m w else o9 k l w\/o9 k m w:=by
 cases k
 ·simp only [o9,Bool.false_eq_true,if_false,List.mem_append]
  constructor
  ·rintro ⟨t,h | h,ht⟩
   ·exact .inl ⟨t,h,ht⟩
   ·exact .inr ⟨t,h,ht⟩
  ·rintro (⟨t,h,ht⟩ | ⟨t,h,ht⟩)
   ·exact ⟨t,.inl h,ht⟩
   ·exact ⟨t,.inr h,ht⟩
 ·simp only [o9,if_true,List.mem_append]
  exact ⟨fun h=>⟨fun t ht=>h t (.inl ht),fun t ht=>h t (.inr ht)⟩,fun h t ht=>ht.elim (h.1 t) (h.2 t)⟩
theorem Gg {k:Bool} {l m:List Tm} (h:∀ t,t∈l↔t∈m) (w:List Int):o9 k l w↔o9 k m w:=by
 cases k<;>simp [o9,h]
theorem TS (k:Bool) (w:List Int):∀ t:Tm,wd t w↔o9 k (memT k t) w
 | .set l=>by cases k<;>simp [memT,o9]
 | .eps=>by cases k<;>simp [memT,o9]
 | .chain a b=>by cases k<;>simp [memT,o9]
 | .star a=>by cases k<;>simp [memT,o9]
 | .not a=>by cases k<;>simp [memT,o9]
 | .bf k' a b=>by
  have ih:=TS k w b
  rw [memT]
  by_cases h:k'=k
  ·subst h
   rw [if_pos rfl,nC,<-ih]
   exact Iff.rfl
  ·rw [if_neg h]
   cases k<;>simp [o9]
theorem IQ (k:Bool) (w:List Int):∀ l:List Tm,l≠[]->(wd (gZ k l) w↔o9 k l w)
 | [],h=>absurd rfl h
 | [a],_=>by cases k<;>simp [gZ,o9]
 | a::b::r,_=>by
  rw [show gZ k (a::b::r)=.bf k a (gZ k (b::r)) from rfl,nC,<-IQ k w (b::r) (by simp)]
  exact Iff.rfl
def jX:Tm->Prop
 | .set l=>Tidy l
 | .eps=>True
 | .chain a b=>jX a/\jX b
 | .star a=>jX a
 | .not a=>jX a
 | .bf _ a b=>jX a/\jX b
theorem TT (k:Bool):∀ {t:Tm},jX t->∀ m∈memT k t,jX m
 | .set l,h=>by simpa [memT] using h
 | .eps,h=>by simpa [memT] using h
 | .chain a b,h=>by simpa [memT] using h
 | .star a,h=>by simpa [memT] using h
 | .not a,h=>by simpa [memT] using h
 | .bf k' a b,h=>by
  rw [memT]
  split
  ·intro m hm
   rcases List.mem_cons.1 hm with rfl | hm
   ·exact h.1
   ·exact TT k h.2 m hm
  ·intro m hm;simp at hm;subst hm;exact h
theorem IU (k:Bool) {a b:af} (ha:Tidy a) (hb:Tidy b):Tidy (gN k a b):=by
 unfold gN;split
 ·exact xE ha.pos hb.pos
 ·exact ja ha.pos hb.pos
theorem AR (k:Bool):∀ (r:List af) (s:af),Tidy s->(∀ x∈r,Tidy x)->Tidy (r.foldl (gN k) s)
 | [],_,h,_=>h
 | x::r,s,h,hr=>AR k r (gN k s x) (IU k h (hr x (List.mem_cons_self ..))) fun y hy=>hr y (List.mem_cons_of_mem _ hy)
theorem qb {k:Bool} {l:List af} {s:af} (h:fJ k l=some s) (hl:∀ x∈l,Tidy x):Tidy s:=by
 cases l with
 | nil=>simp [fJ] at h
 | cons x r=>
  simp only [fJ,Option.some.injEq] at h
  subst h
  exact AR k r x (hl x (List.mem_cons_self ..)) fun y hy=>hl y (List.mem_cons_of_mem _ hy)
theorem t_ {t:Tm}:∀ {l m:List Tm},t∈l.foldl (fun l t=>oV SH t l) m↔t∈l\/t∈m
 | [],m=>by simp
 | x::l,m=>by
  rw [List.foldl_cons,t_,sM]
  simp only [List.mem_cons]
  constructor
  ·rintro (h | h | h)<;>simp [h]
  ·rintro ((h | h) | h)<;>simp [h]
theorem q9 {f:List Tm} {t:Tm}:t∈outs f↔t∈f/\aR t=Option.none:=by
 rw [outs,t_,zH];simp
theorem cO {f:List Tm} {s:af}:s∈f.filterMap aR↔Tm.set s∈f:=by
 rw [List.mem_filterMap]
 constructor
 ·rintro ⟨t,ht,h⟩
  cases t<;>simp [aR] at h
  subst h;exact ht
 ·intro h;exact ⟨_,h,rfl⟩
theorem aP {k:Bool} {f:List Tm} {t:Tm}:t∈aV k f↔(t∈f/\aR t=Option.none)\/∃ s,fJ k (f.filterMap aR)=some s/\t=.set s:=by
 unfold aV
 split
 ·rename_i h;simp [q9,h]
 ·rename_i s h
  rw [sM,q9,h]
  constructor
  ·rintro (rfl | h)
   ·exact .inr ⟨s,rfl,rfl⟩
   ·exact .inl h
  ·rintro (h | ⟨s',h1,rfl⟩)
   ·exact .inr h
   ·cases h1;exact .inl rfl
theorem QM (k:Bool) {a b:af} (ha:Tidy a) (hb:Tidy b) {w:List Int} (hw:iq w) :
  wd (.set (gN k a b)) w↔if k=true then wd (.set a) w/\wd (.set b) w else wd (.set a) w\/wd (.set b) w:=by
 cases k
 ·simp only [gN,Bool.false_eq_true,if_false]
  constructor
  ·rintro ⟨c,rfl,h⟩
   rw [nZ ha.pos hb.pos (hw c (by simp)),Bool.or_eq_true] at h
   exact h.imp (fun h=>⟨c,rfl,h⟩) (fun h=>⟨c,rfl,h⟩)
  ·rintro (⟨c,rfl,h⟩ | ⟨c,rfl,h⟩)
   ·exact ⟨c,rfl,by rw [nZ ha.pos hb.pos (hw c (by simp)),h];rfl⟩
   ·exact ⟨c,rfl,by rw [nZ ha.pos hb.pos (hw c (by simp)),h];simp⟩
 ·simp only [gN,if_true]
  constructor
  ·rintro ⟨c,rfl,h⟩
   rw [vJ ha.pos hb.pos (hw c (by simp)),Bool.and_eq_true] at h
   exact ⟨⟨c,rfl,h.1⟩,⟨c,rfl,h.2⟩⟩
  ·rintro ⟨⟨c,rfl,h⟩,⟨d,hd,h2⟩⟩
   cases hd
   exact ⟨c,rfl,by rw [vJ ha.pos hb.pos (hw c (by simp)),h,h2];rfl⟩
theorem AU (k:Bool) {w:List Int} (hw:iq w):∀ (r:List af) (s:af),Tidy s->(∀ x∈r,Tidy x) ->
  (wd (.set (r.foldl (gN k) s)) w↔o9 k ((s::r).map Tm.set) w)
 | [],s,_,_=>by cases k<;>simp [o9]
 | x::r,s,h,hr=>by
  have hx:=hr x (List.mem_cons_self ..)
  rw [List.foldl_cons,AU k hw r _ (IU k h hx) (fun y hy=>hr y (List.mem_cons_of_mem _ hy)),List.map_cons,nC,QM k h hx hw,List.map_cons,List.map_cons,nC,nC]
  cases k
  ·simp [or_assoc]
  ·simp [and_assoc]
theorem X6 {k:Bool} {l:List Tm} {w:List Int}:wd (p_ k l) w↔o9 k l w:=by
 unfold p_
 by_cases hz:eB k∈l
 ·rw [if_pos hz]
  cases k
  ·exact ⟨fun _=>⟨_,hz,vO⟩,fun _=>vO⟩
  ·exact ⟨fun h=>absurd h vN,fun h=>absurd (h _ hz) vN⟩
 ·rw [if_neg hz]
  have hfil:o9 k (l.filter (fun t=>decide (t≠bD k))) w↔o9 k l w:=by
   cases k
   ·simp only [o9,Bool.false_eq_true,if_false,List.mem_filter]
    constructor
    ·rintro ⟨t,⟨h,_⟩,ht⟩;exact ⟨t,h,ht⟩
    ·rintro ⟨t,h,ht⟩
     refine ⟨t,⟨h,?_⟩,ht⟩
     have:t≠bD false:=by rintro rfl;exact vN ht
     simpa using this
   ·simp only [o9,if_true,List.mem_filter]
    constructor
    ·intro h t ht
     by_cases e:t=bD true
     ·rw [e];exact vO
     ·exact h t ⟨ht,by simpa using e⟩
    ·intro h t ht;exact h t ht.1
  split
  ·rename_i he
   rw [<-hfil,he]
   cases k
   ·exact ⟨fun h=>absurd h vN,fun ⟨_,h,_⟩=>by simp at h⟩
   ·exact ⟨fun _ t h=>by simp at h,fun _=>vO⟩
  ·rename_i hne
   rw [<-hfil]
   exact IQ k w _ hne
theorem QO {k:Bool} {l:List Tm} (hl:∀ t∈l,jX t) {w:List Int} (hw:iq w):wd (aj k l) w↔o9 k l w:=by
 rw [aj,X6]
 have qC:o9 k (l.flatMap (memT k)) w↔o9 k l w:=by
  clear hl
  induction l with
  | nil=>simp
  | cons t l ih=>rw [List.flatMap_cons,AQ,nC,ih,<-TS]
 rw [<-qC]
 have hf:∀ t∈l.flatMap (memT k),jX t:=by
  intro t ht
  obtain ⟨x,hx,hm⟩:=List.mem_flatMap.1 ht
  exact TT k (hl x hx) t hm
 generalize hff:l.flatMap (memT k)=f at *
 clear qC hff
 cases hs:fJ k (f.filterMap aR) with
 | none=>
  have hno:f.filterMap aR=[]:=by
   cases h:f.filterMap aR with
   | nil=>rfl
   | cons s r=>rw [h] at hs;simp [fJ] at hs
  refine Gg (fun t=>?_) w
  rw [aP,hs]
  simp only [reduceCtorEq,false_and,exists_false,or_false]
  refine ⟨fun h=>h.1,fun h=>⟨h,?_⟩⟩
  cases ht:aR t with
  | none=>rfl
  | some s=>
   cases t<;>simp [aR] at ht
   subst ht
   have:=cO.2 h
   rw [hno] at this
   simp at this
 | some s=>
  have ab9:wd (.set s) w↔o9 k ((f.filterMap aR).map Tm.set) w:=by
   cases hq:f.filterMap aR with
   | nil=>rw [hq] at hs;simp [fJ] at hs
   | cons x r=>
    rw [hq] at hs
    simp only [fJ,Option.some.injEq] at hs
    subst hs
    have hall:∀ y∈x::r,Tidy y:=fun y hy=>hf (.set y) (cO.1 (hq▸hy))
    exact AU k hw r x (hall x (List.mem_cons_self ..)) fun y hy=>hall y (List.mem_cons_of_mem _ hy)
  have e1:o9 k (aV k f) w↔o9 k (.set s::outs f) w:=by
   refine Gg (fun t=>?_) w
   rw [aP,hs,List.mem_cons,q9]
   constructor
   ·rintro (h | ⟨s',h1,rfl⟩)
    ·exact .inr h
    ·cases h1;exact .inl rfl
   ·rintro (rfl | h)
    ·exact .inr ⟨s,rfl,rfl⟩
    ·exact .inl h
  have e2:o9 k f w↔o9 k ((f.filterMap aR).map Tm.set++outs f) w:=by
   refine Gg (fun t=>?_) w
   rw [List.mem_append,q9,List.mem_map]
   constructor
   ·intro h
    cases ht:aR t with
    | none=>exact .inr ⟨h,rfl⟩
    | some s'=>
     cases t<;>simp [aR] at ht
     subst ht
     exact .inl ⟨_,cO.2 h,rfl⟩
   ·rintro (⟨x,hx,rfl⟩ | h)
    ·exact cO.1 hx
    ·exact h.1
  rw [e1,e2,nC,AQ,ab9]
theorem jH:∀ t:Tm,cB t=true↔wd t []
 | .set l=>by simp [cB,wd]
 | .eps=>by simp [cB,wd]
 | .chain a b=>by
  simp only [cB,wd,Bool.and_eq_true,jH a,jH b]
  constructor
  ·rintro ⟨h1,h2⟩;exact ⟨[],[],rfl,h1,h2⟩
  ·rintro ⟨u,v,h,h1,h2⟩
   have:=List.append_eq_nil_iff.1 h.symm
   rw [this.1] at h1;rw [this.2] at h2;exact ⟨h1,h2⟩
 | .star a=>by simp only [cB,wd,true_iff];exact .nil
 | .not a=>by simp [cB,wd,<-jH a]
 | .bf k a b=>by
  cases k
  ·simp [cB,wd,jH a,jH b]
  ·simp [cB,wd,jH a,jH b]
def aJ (t:Tm) (w:List Int):Tm:=w.foldl (fun t c=>aL c t) t
end Go.Proofs.YtfolanohokflkaaGreatDoor
namespace Go.Proofs.YtfolanohokflkaaGreatDoor
open Tm (eps)
def TU (c:UInt8):Nat:=if 97<=c.toNat then c.toNat - 87 else c.toNat - 48
def rq (c:UInt8):Prop:=(48<=c.toNat/\c.toNat<=57)\/(97<=c.toNat/\c.toNat<=102)
theorem TV {d:Nat} (h:d<16):rq (IL d):=by
 unfold rq IL
 split
 ·rw [UInt8.toNat_ofNat_of_lt' (by show _<256;omega)];omega
 ·rw [UInt8.toNat_ofNat_of_lt' (by show _<256;omega)];omega
theorem TW {d:Nat} (h:d<16):TU (IL d)=d:=by
 unfold TU IL
 split
 ·rw [UInt8.toNat_ofNat_of_lt' (by show _<256;omega),if_neg (by omega)];omega
 ·rw [UInt8.toNat_ofNat_of_lt' (by show _<256;omega),if_pos (by omega)];omega
def AV (v:Nat) (l:List UInt8):Nat:=l.foldl (fun n c=>16*n+TU c) v
theorem IV:∀ (f n:Nat) (acc:List UInt8),n<f->AV 0 (Gf f n acc)=AV n acc
 | 0,_,_,h=>absurd h (Nat.not_lt_zero _)
 | f+1,n,acc,h=>by
  have hd:=TW (d:=n % 16) (Nat.mod_lt _ (by omega))
  rw [Gf]
  split
  ·show AV (16*0+TU (IL (n % 16))) acc=_
   rw [hd];congr 1;omega
  ·rw [IV f (n / 16) _ (by omega)]
   show AV (16*(n / 16)+TU (IL (n % 16))) acc=_
   rw [hd];congr 1;omega
theorem IW (n:Nat):AV 0 (IM n)=n:=IV (n+1) n [] (Nat.lt_succ_self n)
theorem IX:∀ (f n:Nat) (acc:List UInt8),(∀ c∈acc,rq c)->∀ c∈Gf f n acc,rq c
 | 0,_,_,h=>h
 | f+1,n,acc,h=>by
  have hd:=TV (d:=n % 16) (Nat.mod_lt _ (by omega))
  rw [Gf]
  split
  ·intro c hc
   rcases List.mem_cons.1 hc with rfl | hc
   ·exact hd
   ·exact h c hc
  ·refine IX f _ _ fun c hc=>?_
   rcases List.mem_cons.1 hc with rfl | hc
   ·exact hd
   ·exact h c hc
theorem AX (n:Nat):∀ c∈IM n,rq c:=IX _ _ _ (by simp)
theorem Oe:∀ (f n:Nat) (acc:List UInt8),0<f\/acc≠[]->Gf f n acc≠[]
 | 0,_,acc,h=>by rw [Gf];exact h.resolve_left (by omega)
 | f+1,n,acc,_=>by
  rw [Gf]
  split
  ·simp
  ·exact Oe f _ _ (.inr (by simp))
theorem Og (n:Nat):IM n≠[]:=Oe _ _ _ (.inl (by omega))
theorem IY {m n:Nat} (h:IM m=IM n):m=n:=by rw [<-IW m,<-IW n,h]
theorem AY {d:UInt8}:∀ {u v x y:List UInt8},d∉u->d∉v->u++d::x=v++d::y->u=v/\x=y
 | [],[],x,y,_,_,h=>by simpa using h
 | [],b::v,x,y,_,hv,h=>by
  simp only [List.nil_append,List.cons_append,List.cons.injEq] at h
  exact absurd (by rw [h.1];exact List.mem_cons_self ..) hv
 | a::u,[],x,y,hu,_,h=>by
  simp only [List.nil_append,List.cons_append,List.cons.injEq] at h
  exact absurd (by rw [<-h.1];exact List.mem_cons_self ..) hu
 | a::u,b::v,x,y,hu,hv,h=>by
  simp only [List.cons_append,List.cons.injEq] at h
  obtain ⟨e1,e2⟩:=AY (fun hm=>hu (List.mem_cons_of_mem _ hm)) (fun hm=>hv (List.mem_cons_of_mem _ hm)) h.2
  exact ⟨by rw [h.1,e1],e2⟩
theorem zI {d:UInt8} {n:Nat} (h:d=45\/d=44\/d=93\/d=59):d∉IM n:=by
 intro hm
 have:=AX n d hm
 unfold rq at this
 rcases h with rfl | rfl | rfl | rfl<;>simp at this
theorem AZ:∀ {a b:af} {x y:List UInt8},Pos a->Pos b->nA a++93::x=nA b++93::y->a=b/\x=y
 | [],[],x,y,_,_,h=>by simpa [nA] using h
 | [],q::b,x,y,_,_,h=>by
  exfalso
  rw [nA,nA] at h
  obtain ⟨c,r,hc⟩:=List.exists_cons_of_ne_nil (Og q.1.toNat)
  have h1:=AX q.1.toNat c (by rw [hc];exact List.mem_cons_self ..)
  rw [hc] at h
  simp only [List.nil_append,List.cons_append,List.cons.injEq] at h
  rw [<-h.1] at h1
  unfold rq at h1;simp at h1
 | p::a,[],x,y,_,_,h=>by
  exfalso
  rw [nA,nA] at h
  obtain ⟨c,r,hc⟩:=List.exists_cons_of_ne_nil (Og p.1.toNat)
  have h1:=AX p.1.toNat c (by rw [hc];exact List.mem_cons_self ..)
  rw [hc] at h
  simp only [List.nil_append,List.cons_append,List.cons.injEq] at h
  rw [h.1] at h1
  unfold rq at h1;simp at h1
 | p::a,q::b,x,y,ha,hb,h=>by
  rw [nA,nA] at h
  simp only [List.append_assoc,List.cons_append] at h
  obtain ⟨e1,h⟩:=AY (zI (.inl rfl)) (zI (.inl rfl)) h
  obtain ⟨e2,h⟩:=AY (zI (.inr (.inl rfl))) (zI (.inr (.inl rfl))) h
  obtain ⟨e3,e4⟩:=AZ (fun z hz=>ha z (List.mem_cons_of_mem _ hz)) (fun z hz=>hb z (List.mem_cons_of_mem _ hz)) h
  have ep:=IY e1
  have eq:=IY e2
  have p0:=ha p (List.mem_cons_self ..)
  have q0:=hb q (List.mem_cons_self ..)
  refine ⟨?_,e4⟩
  rw [e3,show p=q from Prod.ext (by omega) (by omega)]
theorem TY {k k':Bool} (h:sign k=sign k'):k=k':=by cases k<;>cases k'<;>simp [sign] at h ⊢
theorem kD (k:Bool):sign k≠91/\sign k≠101/\sign k≠46/\sign k≠42/\sign k≠126/\sign k≠59:=by cases k<;>decide
theorem uK:∀ (m:Option Bool) (t:Tm),∃ c r,di m t=c::r/\c≠59
 | _,.set l=>⟨91,_,rfl,by decide⟩
 | _,.eps=>⟨101,_,rfl,by decide⟩
 | _,.chain a b=>⟨46,_,rfl,by decide⟩
 | _,.star a=>⟨42,_,rfl,by decide⟩
 | _,.not a=>⟨126,_,rfl,by decide⟩
 | m,.bf k a b=>by
  rw [di]
  split
  ·obtain ⟨c,r,h,hc⟩:=uK Option.none a
   exact ⟨c,r++di (some k) b,by rw [h];rfl,hc⟩
  ·exact ⟨sign k,_,rfl,(kD k).2.2.2.2.2⟩
def dF (k:Bool):Tm->Bool
 | .bf k' _ _=>k' != k
 | _=>true
theorem xK {k:Bool}:∀ {t:Tm},dF k t=true->di (some k) t=rend t
 | .set _,_=>rfl
 | .eps,_=>rfl
 | .chain _ _,_=>rfl
 | .star _,_=>rfl
 | .not _,_=>rfl
 | .bf k' a b,h=>by
  have:k'≠k:=by simpa [dF] using h
  rw [rend,di,di,if_neg (by simpa using fun e=>this e.symm),if_neg (by simp)]
theorem xL (k:Bool) (a b:Tm):di (some k) (.bf k a b)=rend a++di (some k) b:=by rw [di,if_pos rfl]
theorem nD (k:Bool) (a b:Tm):rend (.bf k a b)=sign k::(rend a++(di (some k) b++[59])):=by rw [rend,di,if_neg (by simp)]
theorem iR (k:Bool) (t:Tm):(∃ a b,t=.bf k a b)\/dF k t=true:=by
 cases t with
 | bf k' a b=>
  by_cases h:k'=k
  ·exact .inl ⟨a,b,by rw [h]⟩
  ·exact .inr (by simpa [dF] using h)
 | _=>exact .inr rfl
theorem il {k:Bool} {a:Tm} (P:∀ (b:Tm) (x y:List UInt8),jX b->rend a++x=rend b++y->a=b/\x=y)
  (Q:∀ a1 a2,a=.bf k a1 a2->(∀ (b:Tm) (x y:List UInt8),jX b->rend a1++x=rend b++y->a1=b/\x=y)/\∀ (b:Tm) (x y:List UInt8),jX b->di (some k) a2++59::x=di (some k) b++59::y->a2=b/\x=y)
  (b:Tm) (x y:List UInt8) (hb:jX b) (h:di (some k) a++59::x=di (some k) b++59::y):a=b/\x=y:=by
 rcases iR k a with ⟨a1,a2,rfl⟩ | ha
 ·obtain ⟨P1,Q2⟩:=Q a1 a2 rfl
  rw [xL,List.append_assoc] at h
  rcases iR k b with ⟨b1,b2,rfl⟩ | hb'
  ·rw [xL,List.append_assoc] at h
   obtain ⟨e1,h⟩:=P1 b1 _ _ hb.1 h
   obtain ⟨e2,h⟩:=Q2 b2 _ _ hb.2 h
   exact ⟨by rw [e1,e2],h⟩
  ·rw [xK hb'] at h
   obtain ⟨e1,h⟩:=P1 b _ _ hb h
   obtain ⟨c,r,hc,hn⟩:=uK (some k) a2
   rw [hc] at h
   simp only [List.cons_append,List.cons.injEq] at h
   exact absurd h.1 hn
 ·rw [xK ha] at h
  rcases iR k b with ⟨b1,b2,rfl⟩ | hb'
  ·rw [xL,List.append_assoc] at h
   obtain ⟨e1,h⟩:=P b1 _ _ hb.1 h
   obtain ⟨c,r,hc,hn⟩:=uK (some k) b2
   rw [hc] at h
   simp only [List.cons_append,List.cons.injEq] at h
   exact absurd h.1.symm hn
  ·rw [xK hb'] at h
   obtain ⟨e1,h⟩:=P b _ _ hb h
   simp only [List.cons.injEq,true_and] at h
   exact ⟨e1,h⟩
theorem lu:∀ (a:Tm),jX a->(∀ (b:Tm) (x y:List UInt8),jX b->rend a++x=rend b++y->a=b/\x=y) /\
  ∀ k,∀ (b:Tm) (x y:List UInt8),jX b->di (some k) a++59::x=di (some k) b++59::y->a=b/\x=y
 | .set l,ha=>by
  have P:∀ (b:Tm) (x y:List UInt8),jX b->rend (.set l)++x=rend b++y->.set l=b/\x=y:=by
   intro b x y hb h
   cases b with
   | set m=>
    simp only [rend,di,List.cons_append,List.append_assoc,List.cons.injEq,true_and,List.nil_append] at h
    obtain ⟨e1,e2⟩:=AZ (eO.pos ha) (eO.pos hb) h
    exact ⟨by rw [e1],e2⟩
   | bf k c d=>rw [nD] at h;simp [rend,di] at h;exact absurd h.1.symm (kD k).1
   | _=>simp [rend,di] at h
  exact ⟨P,fun k=>il P (fun _ _ h=>by cases h)⟩
 | .eps,ha=>by
  have P:∀ (b:Tm) (x y:List UInt8),jX b->rend eps++x=rend b++y->eps=b/\x=y:=by
   intro b x y hb h
   cases b with
   | eps=>simp [rend,di] at h;exact ⟨rfl,h⟩
   | bf k c d=>rw [nD] at h;simp [rend,di] at h;exact absurd h.1.symm (kD k).2.1
   | _=>simp [rend,di] at h
  exact ⟨P,fun k=>il P (fun _ _ h=>by cases h)⟩
 | .chain a1 a2,ha=>by
  have P1:=(lu a1 ha.1).1
  have P2:=(lu a2 ha.2).1
  have P:∀ (b:Tm) (x y:List UInt8),jX b->rend (.chain a1 a2)++x=rend b++y->.chain a1 a2=b/\x=y:=by
   intro b x y hb h
   cases b with
   | chain b1 b2=>
    simp only [rend,di,List.cons_append,List.append_assoc,List.cons.injEq,true_and] at h
    obtain ⟨e1,h⟩:=P1 b1 _ _ hb.1 h
    obtain ⟨e2,h⟩:=P2 b2 _ _ hb.2 h
    exact ⟨by rw [e1,e2],h⟩
   | bf k c d=>rw [nD] at h;simp [rend,di] at h;exact absurd h.1.symm (kD k).2.2.1
   | _=>simp [rend,di] at h
  exact ⟨P,fun k=>il P (fun _ _ h=>by cases h)⟩
 | .star a1,ha=>by
  have P1:=(lu a1 ha).1
  have P:∀ (b:Tm) (x y:List UInt8),jX b->rend (.star a1)++x=rend b++y->.star a1=b/\x=y:=by
   intro b x y hb h
   cases b with
   | star b1=>
    simp only [rend,di,List.cons_append,List.cons.injEq,true_and] at h
    obtain ⟨e1,h⟩:=P1 b1 _ _ hb h
    exact ⟨by rw [e1],h⟩
   | bf k c d=>rw [nD] at h;simp [rend,di] at h;exact absurd h.1.symm (kD k).2.2.2.1
   | _=>simp [rend,di] at h
  exact ⟨P,fun k=>il P (fun _ _ h=>by cases h)⟩
 | .not a1,ha=>by
  have P1:=(lu a1 ha).1
  have P:∀ (b:Tm) (x y:List UInt8),jX b->rend (.not a1)++x=rend b++y->.not a1=b/\x=y:=by
   intro b x y hb h
   cases b with
   | not b1=>
    simp only [rend,di,List.cons_append,List.cons.injEq,true_and] at h
    obtain ⟨e1,h⟩:=P1 b1 _ _ hb h
    exact ⟨by rw [e1],h⟩
   | bf k c d=>rw [nD] at h;simp [rend,di] at h;exact absurd h.1.symm (kD k).2.2.2.2.1
   | _=>simp [rend,di] at h
  exact ⟨P,fun k=>il P (fun _ _ h=>by cases h)⟩
 | .bf k a1 a2,ha=>by
  have P1:=(lu a1 ha.1).1
  have Q2:=(lu a2 ha.2).2
  have P:∀ (b:Tm) (x y:List UInt8),jX b->rend (.bf k a1 a2)++x=rend b++y->.bf k a1 a2=b/\x=y:=by
   intro b x y hb h
   rw [nD] at h
   cases b with
   | bf k' b1 b2=>
    rw [nD] at h
    simp only [List.cons_append,List.append_assoc,List.cons.injEq,List.nil_append] at h
    have hk:=TY h.1
    subst hk
    obtain ⟨e1,h⟩:=P1 b1 _ _ hb.1 h.2
    obtain ⟨e2,h⟩:=Q2 k b2 _ _ hb.2 h
    exact ⟨by rw [e1,e2],h⟩
   | set l=>simp [rend,di] at h;exact absurd h.1 (kD k).1
   | eps=>simp [rend,di] at h;exact absurd h.1 (kD k).2.1
   | chain c d=>simp [rend,di] at h;exact absurd h.1 (kD k).2.2.1
   | star c=>simp [rend,di] at h;exact absurd h.1 (kD k).2.2.2.1
   | not c=>simp [rend,di] at h;exact absurd h.1 (kD k).2.2.2.2.1
  exact ⟨P,fun k'=>il P (fun c d h=>by
   cases h
   exact ⟨P1,Q2 k⟩)⟩
theorem TZ {a b:Tm} (ha:jX a) (hb:jX b) (h:rend a=rend b):a=b:=((lu a ha).1 b [] [] hb (by rw [h])).1
theorem A7:∀ l:List UInt8,Od l l=false
 | []=>rfl
 | x::r=>by rw [Od,if_pos rfl,A7 r]
theorem Er:∀ a b c:List UInt8,Od b a=true->Od c b=true->Od c a=true
 | _,[],_,h,_=>by simp [Od] at h
 | _,_::_,[],_,h=>by simp [Od] at h
 | [],_::_,_::_,_,_=>rfl
 | x::a,y::b,z::c,h1,h2=>by
  rw [Od] at h1 h2 ⊢
  by_cases e1:y=x
  ·by_cases e2:z=y
   ·rw [if_pos e1] at h1;rw [if_pos e2] at h2;rw [if_pos (e2.trans e1)]
    exact Er a b c h1 h2
   ·rw [if_neg e2] at h2;rw [e1] at e2;rw [if_neg e2];rw [e1] at h2;exact h2
  ·rw [if_neg e1] at h1
   have h1':=of_decide_eq_true h1
   by_cases e2:z=y
   ·subst e2;rw [if_neg e1];exact h1
   ·rw [if_neg e2] at h2
    have h2':=of_decide_eq_true h2
    have:x<z:=UInt8.lt_trans h1' h2'
    rw [if_neg (by rintro rfl;exact absurd this (UInt8.lt_irrefl _))]
    exact decide_eq_true this
theorem Es:∀ a b:List UInt8,Od a b=true\/Od b a=true\/a=b
 | [],[]=>.inr (.inr rfl)
 | [],_::_=>.inr (.inl rfl)
 | _::_,[]=>.inl rfl
 | x::a,y::b=>by
  rw [Od,Od]
  by_cases e:x=y
  ·subst e
   rw [if_pos rfl,if_pos rfl]
   rcases Es a b with h | h | h
   ·exact .inl h
   ·exact .inr (.inl h)
   ·exact .inr (.inr (by rw [h]))
  ·rw [if_neg e,if_neg (fun h=>e h.symm)]
   rcases UInt8.lt_or_lt_of_ne e with h | h
   ·exact .inr (.inl (decide_eq_true h))
   ·exact .inl (decide_eq_true h)
theorem A8 (a:Tm):SH a a=false:=A7 _
theorem Et (a b c:Tm):SH b a=true->SH c b=true->SH c a=true:=Er _ _ _
theorem QP {a b:Tm} (ha:jX a) (hb:jX b):SH a b=true\/SH b a=true\/a=b:=by
 rcases Es (rend a) (rend b) with h | h | h
 ·exact .inl h
 ·exact .inr (.inl h)
 ·exact .inr (.inr (TZ ha hb h))
def ru (l:List Tm):Prop:=l.Pairwise (fun a b=>SH b a=true)
theorem IZ {l m:List Tm} (hl:ru l) (hm:ru m) (h:∀ x,x∈l↔x∈m):l=m:=uD A8 Et hl hm h
theorem vP {l:List Tm} (h:ru l) (hl:∀ t∈l,jX t) {c:Tm} (hc:jX c):ru (oV SH c l):=by
 unfold oV
 split
 ·exact h
 ·rename_i hn
  refine qX Et (fun x hx=>?_) h
  rcases QP (hl x hx) hc with h1 | h1 | h1
  ·exact .inl h1
  ·exact .inr h1
  ·subst h1;exact absurd (by simpa using hx) hn
theorem yH:∀ {f l:List Tm},ru l->(∀ t∈l,jX t)->(∀ t∈f,jX t)->ru (f.foldl (fun l t=>oV SH t l) l)
 | [],_,h,_,_=>h
 | x::f,l,h,hl,hf=>by
  have hx:=hf x (List.mem_cons_self ..)
  refine yH (f:=f) (vP h hl hx) (fun t ht=>?_) (fun t ht=>hf t (List.mem_cons_of_mem _ ht))
  rcases sM.1 ht with rfl | ht
  ·exact hx
  ·exact hl t ht
theorem yI {f:List Tm} (hf:∀ t∈f,jX t):ru (outs f):=by
 refine yH (by simp [ru]) (by simp) fun t ht=>hf t ?_
 rw [zH] at ht
 exact (List.mem_filter.1 ht).1
theorem nE {k:Bool} {f:List Tm} (hf:∀ t∈f,jX t):(∀ t∈aV k f,jX t)/\ru (aV k f):=by
 have h1:∀ t∈aV k f,jX t:=by
  intro t ht
  rcases aP.1 ht with h | ⟨s,hs,rfl⟩
  ·exact hf t h.1
  ·exact qb hs fun x hx=>hf (.set x) (cO.1 hx)
 refine ⟨h1,?_⟩
 unfold aV at h1 ⊢
 split
 ·exact yI hf
 ·rename_i s hs
  exact vP (yI hf) (fun t ht=>hf t (q9.1 ht).1) (qb hs fun x hx=>hf (.set x) (cO.1 hx))
end Go.Proofs.YtfolanohokflkaaGreatDoor
namespace Go.Proofs.YtfolanohokflkaaGreatDoor
open Tm (eps)
def oH:Tm->Bool
 | .star _=>true
 | _=>false
def Oh:Tm->Bool
 | .not _=>true
 | _=>false
def mi (l:List Tm):Prop:=(l.filterMap aR).length<=1
def uL:Option Bool->Tm->Prop
 | m,.set l=>Tidy l/\(m≠Option.none->l≠[])
 | _,.eps=>True
 | _,.chain a b=>uL .none a/\uL .none b/\bG a=false/\a≠aH/\a≠eps/\b≠aH/\b≠eps
 | _,.star a=>uL .none a/\a≠aH/\a≠eps/\oH a=false
 | m,.not a=>uL .none a/\Oh a=false/\(m≠Option.none->a≠aH)
 | _,.bf k a b=>uL .none a/\dF k a=true/\a≠aH/\a≠whole/\uL (some k) b/\ru (memT k (.bf k a b))/\mi (memT k (.bf k a b))
abbrev Cn (t:Tm):Prop:=uL Option.none t
theorem uL.any {m:Option Bool}:∀ {t:Tm},uL m t->Cn t
 | .set _,h=>⟨h.1,fun e=>absurd rfl e⟩
 | .eps,_=>trivial
 | .chain _ _,h=>h
 | .star _,h=>h
 | .not _,h=>⟨h.1,h.2.1,fun e=>absurd rfl e⟩
 | .bf _ _ _,h=>h
theorem uL.ok:∀ {m:Option Bool} {t:Tm},uL m t->jX t
 | _,.set _,h=>h.1
 | _,.eps,_=>trivial
 | _,.chain _ _,h=>⟨uL.ok h.1,uL.ok h.2.1⟩
 | _,.star a,h=>uL.ok (t:=a) h.1
 | _,.not a,h=>uL.ok (t:=a) h.1
 | _,.bf _ _ _,h=>⟨uL.ok h.1,uL.ok h.2.2.2.2.1⟩
def T9 (k:Bool) (m:Tm):Prop:=Cn m/\dF k m=true/\m≠aH/\m≠whole
theorem uL.void {k:Bool}:∀ {t:Tm},uL (some k) t->t≠aH/\t≠whole
 | .set l,h=>⟨by intro e;cases e;exact h.2 (by simp) rfl,by simp⟩
 | .eps,_=>⟨by simp,by simp⟩
 | .chain _ _,_=>⟨by simp,by simp⟩
 | .star _,_=>⟨by simp,by simp⟩
 | .not a,h=>⟨by simp,by intro e;cases e;exact h.2.2 (by simp) rfl⟩
 | .bf _ _ _,_=>⟨by simp,by simp⟩
theorem uL.rest {k:Bool} {t:Tm} (h:Cn t) (h1:t≠aH) (h2:t≠whole):uL (some k) t:=by
 cases t with
 | set l=>exact ⟨h.1,fun _ e=>h1 (by rw [e])⟩
 | eps=>trivial
 | chain a b=>exact h
 | star a=>exact h
 | not a=>exact ⟨h.1,h.2.1,fun _ e=>h2 (by rw [e])⟩
 | bf k a b=>exact h
theorem bn {k:Bool} {t:Tm} (h:dF k t=true):memT k t=[t]:=by
 cases t with
 | bf k' a b=>
  have:k'≠k:=by simpa [dF] using h
  rw [memT,if_neg this]
 | _=>rfl
theorem g_ (k:Bool) (a b:Tm):memT k (.bf k a b)=a::memT k b:=by rw [memT,if_pos rfl]
theorem uL.members {k:Bool}:∀ {t:Tm},uL (some k) t->∀ m∈memT k t,T9 k m
 | t,h=>by
  rcases iR k t with ⟨a,b,rfl⟩ | hn
  ·rw [g_]
   intro m hm
   rcases List.mem_cons.1 hm with rfl | hm
   ·exact ⟨h.1,h.2.1,h.2.2.1,h.2.2.2.1⟩
   ·exact uL.members (t:=b) h.2.2.2.2.1 m hm
  ·rw [bn hn]
   intro m hm
   simp at hm;subst hm
   exact ⟨h.any,hn,h.void.1,h.void.2⟩
 termination_by t=>t
theorem Cn.members {k:Bool} {t:Tm} (h:Cn t):∀ m∈memT k t,Cn m/\dF k m=true:=by
 rcases iR k t with ⟨a,b,rfl⟩ | hn
 ·intro m hm
  have:=uL.members (k:=k) (t:=.bf k a b) h m hm
  exact ⟨this.1,this.2.1⟩
 ·rw [bn hn]
  intro m hm
  simp at hm;subst hm
  exact ⟨h,hn⟩
theorem iT (k:Bool) (a:Tm) {l:List Tm} (h:l≠[]):gZ k (a::l)=.bf k a (gZ k l):=by
 cases l with
 | nil=>exact absurd rfl h
 | cons b r=>rfl
theorem nG (k:Bool):∀ {l:List Tm},l≠[]->(∀ m∈l,dF k m=true)->memT k (gZ k l)=l
 | [],h,_=>absurd rfl h
 | [a],_,hm=>bn (hm a (List.mem_cons_self ..))
 | a::b::r,_,hm=>by
  rw [iT k a (by simp),g_,nG k (l:=b::r) (by simp) fun m h=>hm m (List.mem_cons_of_mem _ h)]
theorem vQ (k:Bool) (t:Tm):memT k t≠[]:=by
 cases t with
 | bf k' a b=>rw [memT];split<;>simp
 | _=>simp [memT]
theorem A9 (k:Bool):∀ t:Tm,gZ k (memT k t)=t
 | t=>by
  rcases iR k t with ⟨a,b,rfl⟩ | hn
  ·rw [g_,iT k a (vQ k b),A9 k b]
  ·rw [bn hn];rfl
 termination_by t=>t
theorem I1 {a:Tm} {l:List Tm} (h:mi (a::l)):mi l:=by
 unfold mi at *
 rw [List.filterMap_cons] at h
 split at h
 ·exact h
 ·rw [List.length_cons] at h;omega
theorem Oi {k:Bool}:∀ {l:List Tm},l≠[]->(∀ m∈l,T9 k m)->ru l->mi l->uL (some k) (gZ k l)
 | [],h,_,_,_=>absurd rfl h
 | [a],_,hm,_,_=>by
  have:=hm a (List.mem_cons_self ..)
  exact uL.rest this.1 this.2.2.1 this.2.2.2
 | a::b::r,_,hm,hs,ho=>by
  have ha:=hm a (List.mem_cons_self ..)
  have hm':∀ m∈b::r,T9 k m:=fun m h=>hm m (List.mem_cons_of_mem _ h)
  have ih:=Oi (l:=b::r) (by simp) hm' (List.pairwise_cons.1 hs).2 (I1 ho)
  have e:=nG k (l:=a::b::r) (by simp) fun m h=>(hm m h).2.1
  rw [iT k a (by simp)] at e ⊢
  exact ⟨ha.1,ha.2.1,ha.2.2.1,ha.2.2.2,ih,by rw [e];exact hs,by rw [e];exact ho⟩
theorem Mg (k:Bool):Cn (bD k):=by
 cases k
 ·exact ⟨trivial,fun e=>absurd rfl e⟩
 ·exact ⟨⟨trivial,fun e=>absurd rfl e⟩,rfl,fun e=>absurd rfl e⟩
theorem aaD (k:Bool):Cn (eB k):=by
 cases k
 ·exact ⟨⟨trivial,fun e=>absurd rfl e⟩,rfl,fun e=>absurd rfl e⟩
 ·exact ⟨trivial,fun e=>absurd rfl e⟩
theorem Mh {l:List Tm} (hn:l.Nodup) (h:∀ s s',Tm.set s∈l->Tm.set s'∈l->s=s'):mi l:=by
 unfold mi
 induction l with
 | nil=>simp
 | cons a l ih=>
  have hn':=List.nodup_cons.1 hn
  have ih':=ih hn'.2 fun s s' h1 h2=>h s s' (List.mem_cons_of_mem _ h1) (List.mem_cons_of_mem _ h2)
  rw [List.filterMap_cons]
  cases hs:aR a with
  | none=>exact ih'
  | some s=>
   have ea:a=.set s:=by cases a<;>simp [aR] at hs;rw [hs]
   have:l.filterMap aR=[]:=by
    cases hq:l.filterMap aR with
    | nil=>rfl
    | cons s' r=>
     have h2:Tm.set s'∈l:=cO.1 (by rw [hq];exact List.mem_cons_self ..)
     have e:=h s s' (by rw [ea];exact List.mem_cons_self ..) (List.mem_cons_of_mem _ h2)
     subst e
     rw [ea] at hn'
     exact absurd h2 hn'.1
   simp [this]
theorem xM {l:List Tm} (h:ru l):l.Nodup:=h.imp fun {a b} h e=>by
 subst e;rw [A8] at h;exact absurd h (by simp)
theorem zJ {l:List Tm} (h:ru l) (p:Tm->Bool):ru (l.filter p):=h.filter p
theorem lY {t:Tm} {s:af} (h:aR t=some s):t=.set s:=by cases t<;>simp [aR] at h;rw [h]
theorem Gh {k:Bool} {f:List Tm} {s s':af} (h:Tm.set s∈aV k f) (h':Tm.set s'∈aV k f):s=s':=by
 rcases aP.1 h with ⟨_,h1⟩ | ⟨x,hx,e⟩
 ·simp [aR] at h1
 ·rcases aP.1 h' with ⟨_,h1⟩ | ⟨y,hy,e'⟩
  ·simp [aR] at h1
  ·rw [hx] at hy;cases hy;cases e;cases e';rfl
theorem aaE {k:Bool} {l:List Tm} (hm:∀ m∈l,Cn m/\dF k m=true) (hs:ru l) (ho:∀ s s',Tm.set s∈l->Tm.set s'∈l->s=s'):Cn (p_ k l):=by
 unfold p_
 split
 ·exact aaD k
 rename_i hz
 split
 ·exact Mg k
 ·rename_i hne
  refine (Oi hne (fun m h=>?_) (zJ hs _) (Mh (xM (zJ hs _)) fun s s' h h'=>ho s s' (List.mem_filter.1 h).1 (List.mem_filter.1 h').1)).any
  have h':=List.mem_filter.1 h
  have hu:m≠bD k:=by simpa using h'.2
  have hzz:m≠eB k:=by rintro rfl;exact hz h'.1
  refine ⟨(hm m h'.1).1,(hm m h'.1).2,?_,?_⟩
  ·cases k
   ·exact hu
   ·exact hzz
  ·cases k
   ·exact hzz
   ·exact hu
theorem kE {k:Bool} {l:List Tm} (h:∀ t∈l,Cn t):Cn (aj k l):=by
 have hf:∀ m∈l.flatMap (memT k),Cn m/\dF k m=true:=by
  intro m hm
  obtain ⟨x,hx,hm⟩:=List.mem_flatMap.1 hm
  exact (h x hx).members m hm
 have hok:∀ m∈l.flatMap (memT k),jX m:=fun m hm=>(hf m hm).1.ok
 refine aaE (fun m hm=>?_) (nE hok).2 (fun s s'=>Gh)
 rcases aP.1 hm with ⟨h1,_⟩ | ⟨s,hs,rfl⟩
 ·exact hf m h1
 ·exact ⟨⟨qb hs fun x hx=>(hf (.set x) (cO.1 hx)).1.1,fun e=>absurd rfl e⟩,rfl⟩
theorem eP:∀ (a b:Tm),Cn a->Cn b->Cn (ay a b)
 | a,b,ha,hb=>by
  rw [mV]
  split
  ·exact ⟨trivial,fun e=>absurd rfl e⟩
  rename_i h1
  split
  ·exact hb
  rename_i h2
  split
  ·exact ha
  rename_i h3
  have hv:a≠aH/\b≠aH:=⟨fun e=>h1 (.inl e),fun e=>h1 (.inr e)⟩
  cases a with
  | chain x y=>exact eP x _ ha.1 (eP y b ha.2.1 hb)
  | set l=>exact ⟨ha,hb,rfl,hv.1,h2,hv.2,h3⟩
  | eps=>exact absurd rfl h2
  | star a=>exact ⟨ha,hb,rfl,hv.1,h2,hv.2,h3⟩
  | not a=>exact ⟨ha,hb,rfl,hv.1,h2,hv.2,h3⟩
  | bf k x y=>exact ⟨ha,hb,rfl,hv.1,h2,hv.2,h3⟩
 termination_by a=>a
theorem Oj {a:Tm} (h:Cn a):Cn (gY a):=by
 unfold gY
 split
 ·trivial
 ·rename_i h1
  have h2:a≠aH/\a≠eps:=⟨fun e=>h1 (.inl e),fun e=>h1 (.inr e)⟩
  cases a with
  | star x=>exact h
  | set l=>exact ⟨h,h2.1,h2.2,rfl⟩
  | eps=>exact absurd rfl h2.2
  | chain x y=>exact ⟨h,h2.1,h2.2,rfl⟩
  | not x=>exact ⟨h,h2.1,h2.2,rfl⟩
  | bf k x y=>exact ⟨h,h2.1,h2.2,rfl⟩
theorem T_ {a:Tm} (h:Cn a):Cn (kg a):=by
 cases a with
 | not x=>exact h.1
 | set l=>exact ⟨h,rfl,fun e=>absurd rfl e⟩
 | eps=>exact ⟨h,rfl,fun e=>absurd rfl e⟩
 | chain x y=>exact ⟨h,rfl,fun e=>absurd rfl e⟩
 | star x=>exact ⟨h,rfl,fun e=>absurd rfl e⟩
 | bf k x y=>exact ⟨h,rfl,fun e=>absurd rfl e⟩
theorem zK:Cn aH:=Mg false
theorem aaF:Cn eps:=trivial
theorem fT (c:Int):∀ {m:Option Bool} {t:Tm},uL m t->Cn (aL c t)/\∀ k,m=some k->∀ x∈memT k t,Cn (aL c x)
 | m,.set l,h=>by
  have h0:Cn (aL c (.set l)):=by
   rw [jC];split
   ·trivial
   ·exact zK
  exact ⟨h0,fun k _ x hx=>by simp [memT] at hx;subst hx;exact h0⟩
 | m,.eps,_=>⟨zK,fun k _ x hx=>by simp [memT] at hx;subst hx;exact zK⟩
 | m,.chain a b,h=>by
  have ha:=eP _ b (fT c h.1).1 h.2.1
  have hb:=(fT c h.2.1).1
  have h0:Cn (aL c (.chain a b)):=by
   rw [fQ];split
   ·refine kE fun t ht=>?_
    simp at ht
    rcases ht with rfl | rfl
    ·exact ha
    ·exact hb
   ·exact ha
  exact ⟨h0,fun k _ x hx=>by simp [memT] at hx;subst hx;exact h0⟩
 | m,.star a,h=>by
  have h0:Cn (aL c (.star a)):=eP _ _ (fT c (t:=a) h.1).1 h
  exact ⟨h0,fun k _ x hx=>by simp [memT] at hx;subst hx;exact h0⟩
 | m,.not a,h=>by
  have h0:Cn (aL c (.not a)):=T_ (fT c (t:=a) h.1).1
  exact ⟨h0,fun k _ x hx=>by simp [memT] at hx;subst hx;exact h0⟩
 | m,.bf k' a b,h=>by
  have ha:=(fT c h.1).1
  have hb:=(fT c h.2.2.2.2.1).2
  have hall:∀ x∈memT k' (.bf k' a b),Cn (aL c x):=by
   intro x hx
   rw [g_] at hx
   rcases List.mem_cons.1 hx with rfl | hx
   ·exact ha
   ·exact hb k' rfl x hx
  have h0:Cn (aL c (.bf k' a b)):=by
   rw [o8]
   refine kE fun t ht=>?_
   obtain ⟨x,hx,rfl⟩:=List.mem_map.1 ht
   exact hall x hx
  refine ⟨h0,fun k _ x hx=>?_⟩
  by_cases e:k'=k
  ·subst e;exact hall x hx
  ·rw [memT,if_neg e] at hx
   simp at hx;subst hx;exact h0
theorem fK:∀ (w:List Int) {t:Tm},Cn t->Cn (aJ t w)
 | [],_,h=>h
 | c::w,t,h=>fK w (t:=aL c t) (fT c h).1
theorem QR {k:Bool} {l:List Tm} (hne:l≠[]) (h1:aH∉l) (h2:whole∉l):p_ k l=gZ k l:=by
 have hz:eB k∉l:=by cases k<;>assumption
 have hu:bD k∉l:=by cases k<;>assumption
 unfold p_
 rw [if_neg hz,List.filter_eq_self.2 (fun t ht=>by
  have:t≠bD k:=by rintro rfl;exact hu ht
  simpa using this)]
 cases l with
 | nil=>exact absurd rfl hne
 | cons a r=>rfl
theorem vR {k:Bool} {l:List Tm} (hok:∀ t∈l,jX t) (hs:ru l) (ho:mi l):aV k l=l:=by
 refine IZ (nE hok).2 hs fun t=>?_
 rw [aP]
 cases hq:l.filterMap aR with
 | nil=>
  simp only [fJ,reduceCtorEq,false_and,exists_false,or_false]
  refine ⟨fun h=>h.1,fun h=>⟨h,?_⟩⟩
  cases hst:aR t with
  | none=>rfl
  | some s=>
   rw [lY hst] at h
   have:=cO.2 h
   rw [hq] at this;simp at this
 | cons s r=>
  have hr:r=[]:=by
   unfold mi at ho;rw [hq] at ho;simp at ho;exact ho
  subst hr
  simp only [fJ,List.foldl_nil,Option.some.injEq,exists_eq_left']
  have hmem:Tm.set s∈l:=cO.1 (by rw [hq];exact List.mem_cons_self ..)
  constructor
  ·rintro (h | rfl)
   ·exact h.1
   ·exact hmem
  ·intro h
   cases hst:aR t with
   | none=>exact .inl ⟨h,rfl⟩
   | some s'=>
    have e:=lY hst
    rw [e] at h
    have:=cO.2 h
    rw [hq] at this
    simp at this
    subst this
    exact .inr e
theorem group_one' {k:Bool} {t:Tm} (h:Cn t):aj k [t]=t:=by
 rw [aj,List.flatMap_cons,List.flatMap_nil,List.append_nil]
 rcases iR k t with ⟨a,b,rfl⟩ | hn
 ·have hm:=uL.members (k:=k) (t:=.bf k a b) h
  rw [vR (fun x hx=>(hm x hx).1.ok) h.2.2.2.2.2.1 h.2.2.2.2.2.2,QR (vQ k _) (fun hv=>(hm _ hv).2.2.1 rfl) (fun hv=>(hm _ hv).2.2.2 rfl),A9]
 ·rw [bn hn,vR (by simpa using h.ok) (by simp [ru]) (by unfold mi;exact Nat.le_trans (List.length_filterMap_le ..) (by simp))]
  unfold p_
  by_cases hz:t=eB k
  ·rw [if_pos (by simp [hz]),hz]
  ·rw [if_neg (by simpa using fun e=>hz e.symm)]
   by_cases hu:t=bD k
   ·rw [hu];simp
   ·simp [hu,gZ]
end Go.Proofs.YtfolanohokflkaaGreatDoor
namespace Go.Proofs.YtfolanohokflkaaGreatDoor
open Tm (eps)
inductive Pt where
 | set (l:List (Int×Int))
 | row (l:List Pt)
 | bf (k:Bool) (l:List Pt)
 | not (a:Pt)
 | rep (a:Pt) (least:Nat) (most:Option Nat)
def kF (l:List Tm):Tm:=l.foldr ay eps
def o_ (t:Tm):Tm:=aj false [eps,t]
def nX (t:Tm) (n:Nat):Option Nat->Tm
 | Option.none=>(List.replicate n t).foldr ay (gY t)
 | some m=>(List.replicate n t).foldr ay (kF (List.replicate (m - n) (o_ t)))
mutual
def dE:Pt->Tm
 | .set l=>.set l
 | .row l=>kF (vS l)
 | .bf k l=>aj k (vS l)
 | .not a=>kg (dE a)
 | .rep a n m=>nX (dE a) n m
def vS:List Pt->List Tm
 | []=>[]
 | p::r=>dE p::vS r
end
theorem A_:∀ l:List Pt,vS l=l.map dE
 | []=>by rw [vS];rfl
 | p::r=>by rw [vS,A_ r];rfl
mutual
def sO:Pt->Prop
 | .set l=>Tidy l
 | .row l=>DJ l
 | .bf _ l=>DJ l
 | .not a=>sO a
 | .rep a _ _=>sO a
def DJ:List Pt->Prop
 | []=>True
 | p::r=>sO p/\DJ r
end
theorem vT {l:List Tm} {t:Tm} (hl:∀ x∈l,Cn x) (ht:Cn t):Cn (l.foldr ay t):=by
 induction l with
 | nil=>exact ht
 | cons x l ih=>exact eP _ _ (hl x (List.mem_cons_self ..)) (ih fun y hy=>hl y (List.mem_cons_of_mem _ hy))
theorem Ua {t:Tm} (h:Cn t):Cn (o_ t):=kE fun x hx=>by
 simp at hx
 rcases hx with rfl | rfl
 ·trivial
 ·exact h
theorem aaG {t:Tm} (h:Cn t) (n:Nat) (m:Option Nat):Cn (nX t n m):=by
 have hr:∀ x∈List.replicate n t,Cn x:=fun x hx=>by rw [(List.mem_replicate.1 hx).2];exact h
 cases m with
 | none=>exact vT hr (Oj h)
 | some m=>exact vT hr (vT (fun x hx=>by rw [(List.mem_replicate.1 hx).2];exact Ua h) trivial)
mutual
theorem uM:∀ {p:Pt},sO p->Cn (dE p)
 | .set l,h=>by rw [sO] at h;rw [dE];exact ⟨h,fun e=>absurd rfl e⟩
 | .row l,h=>by rw [sO] at h;rw [dE];exact vT (Gi h) trivial
 | .bf k l,h=>by rw [sO] at h;rw [dE];exact kE (Gi h)
 | .not a,h=>by rw [sO] at h;rw [dE];exact T_ (uM h)
 | .rep a n m,h=>by rw [sO] at h;rw [dE];exact aaG (uM h) n m
theorem Gi:∀ {l:List Pt},DJ l->∀ t∈vS l,Cn t
 | [],_=>by rw [vS];simp
 | p::r,h=>by
  rw [DJ] at h
  rw [vS]
  have hp:=uM h.1
  have hr:=Gi h.2
  intro t ht
  rcases List.mem_cons.1 ht with rfl | ht
  ·exact hp
  ·exact hr t ht
end
end Go.Proofs.YtfolanohokflkaaGreatDoor
namespace Go.Proofs.YtfolanohokflkaaGreatDoor
abbrev Pn:=Pt×Int
abbrev jY:=Nat×Option Nat×Int
def gT (n:Nat) (m:jY) (l:List Sy):bu jY:=if hd l=125 then .ok (m,l.tail) else bad 2 n l
def jc (n:Nat) (l:List Sy):bu jY:=
 match bU n 0 l with
 | .error x=>.error x
 | .ok (a,l1)=>
  if hd l1=44 then
   (if hd l1.tail=125 then .ok ((a.toNat,none,a+1),l1.tail.tail)
    else match bU n a l1.tail with
     | .error x=>.error x
     | .ok (m,l2)=>gT n (a.toNat,some m.toNat,j_ m) l2)
  else gT n (a.toNat,some a.toNat,j_ a) l1
def eU (n:Nat) (l:List Sy):bu jY:=
 if hd l=123 then jc n l.tail
 else if hd l=42 then .ok ((0,none,2),l.tail)
 else if hd l=43 then .ok ((1,none,2),l.tail)
 else .ok ((0,some 1,2),l.tail)
def zL:af:=[(48,57)]
def vU:af:=[(48,57),(65,90),(95,95),(97,122)]
def jO (l:List Sy):af:=if hd l.tail=100 then zL else vU
def kH (n:Nat) (l:List Sy):bu af:=
 if isSet l=true then .ok (jO l,l.tail.tail)
 else match fu n l with
  | .error x=>.error x
  | .ok (a,l1)=>
   if hd l1=45 then (match fu n l1.tail with
    | .error x=>.error x
    | .ok (b,l2)=>if b<a then bad 3 n l2 else .ok ([(a,b)],l2))
   else .ok ([(a,a)],l1)
def bR (n:Nat):Nat->af->List Sy->bu af
 | 0,_,l=>bad 2 n l
 | f+1,s,l=>if hd l=93 then .ok (s,l.tail) else match kH n l with
  | .error x=>.error x
  | .ok (p,l1)=>bR n f (qH s p) l1
def Be:bu af->bu af
 | .error x=>.error x
 | .ok (s,l)=>.ok (fH s,l)
def jP (n:Nat) (l:List Sy):bu af:=
 if hd l=94 then Be (bR n (l.length+1) [] l.tail) else bR n (l.length+1) [] l
def Gj:af:=fH []
def QS:bu Int->bu af
 | .error x=>.error x
 | .ok (c,l)=>.ok ([(c,c)],l)
def gp (n:Nat) (l:List Sy):bu af:=
 if hd l=91 then jP n l.tail
 else if hd l=92 then (if isSet l=true then .ok (jO l,l.tail.tail) else QS (fE n l.tail))
 else if hd l=46 then .ok (Gj,l.tail)
 else if hd l<0\/m_ (hd l)=true then bad 2 n l
 else .ok ([(hd l,hd l)],l.tail)
def og:bu af->bu Pn
 | .error x=>.error x
 | .ok (s,l)=>.ok ((.set s,1),l)
def I4 (p:Pn) (o:jY):Pn:=(.rep p.1 o.1 o.2.1,dB (p.2*o.2.2))
def I5 (p:Pn):Pn:=(.not p.1,dB (p.2+1))
def kI (n:Nat):Nat->Pn->List Sy->bu Pn
 | 0,_,l=>bad 2 n l
 | f+1,z,l=>if mr (hd l)=true then (match eU n l with
   | .error x=>.error x
   | .ok (m,l1)=>kI n f (I4 z m) l1)
  else .ok (z,l)
def dZ (n:Nat) (atom:List Sy->bu Pn):Nat->List Sy->bu Pn
 | 0,l=>bad 2 n l
 | f+1,l=>if hd l=126 then (match dZ n atom f l.tail with
   | .error x=>.error x
   | .ok (z,l1)=>.ok (I5 z,l1))
  else match atom l with
   | .error x=>.error x
   | .ok (z,l1)=>kI n (l1.length+1) z l1
def dJ:List Pn->Int
 | []=>0
 | p::r=>p.2+dJ r
def fM (l:List Pn):Pn:=match l with
 | [p]=>p
 | l=>(.row (l.map Prod.fst),if l.length=0 then 1 else min (((l.length:Int) - 1)+dJ l) 61)
def jk (k:Bool) (l:List Pn):Pn:=match l with
 | [p]=>p
 | l=>(.bf k (l.map Prod.fst),min (((l.length:Int) - 1)+dJ l) 61)
def bM (n:Nat) (atom:List Sy->bu Pn):Nat->List Pn->List Sy->bu (List Pn)
 | 0,_,l=>bad 2 n l
 | f+1,z,l=>if kr (hd l)=true then .ok (z,l) else match dZ n atom (l.length+1) l with
  | .error x=>.error x
  | .ok (y,l1)=>bM n atom f (z++[y]) l1
def oI {a b:Type} (g:a->b):bu a->bu b
 | .error x=>.error x
 | .ok (v,l)=>.ok (g v,l)
def rowP (n:Nat) (atom:List Sy->bu Pn) (l:List Sy):bu Pn:=
 if kr (hd l)=true then .ok (fM [],l) else match dZ n atom (l.length+1) l with
  | .error x=>.error x
  | .ok (y,l1)=>oI fM (bM n atom (l1.length+1) [y] l1)
def bO (n:Nat) (sub:List Sy->bu Pn) (sign:Int):Nat->List Pn->List Sy->bu (List Pn)
 | 0,_,l=>bad 2 n l
 | f+1,z,l=>if hd l=sign then (match sub l.tail with
   | .error x=>.error x
   | .ok (y,l1)=>bO n sub sign f (z++[y]) l1)
  else .ok (z,l)
def qI (n:Nat) (sub:List Sy->bu Pn) (sign:Int) (g:List Pn->Pn) (l:List Sy):bu Pn:=
 match sub l with
 | .error x=>.error x
 | .ok (y,l1)=>oI g (bO n sub sign (l1.length+1) [y] l1)
def ZV (n:Nat) (atom:List Sy->bu Pn):List Sy->bu Pn:=qI n (rowP n atom) 38 (jk true)
def fO (n:Nat) (atom:List Sy->bu Pn):List Sy->bu Pn:=qI n (ZV n atom) 124 (jk false)
def I6 (n:Nat):bu Pn->bu Pn
 | .error x=>.error x
 | .ok (z,l)=>if hd l=41 then .ok (z,l.tail) else bad 2 n l
def eD (n:Nat):Nat->List Sy->bu Pn
 | 0,l=>if hd l=40 then bad 4 n l else og (gp n l)
 | k+1,l=>if hd l=40 then I6 n (fO n (eD n k) l.tail) else og (gp n l)
def pq (n:Nat):bu Pn->Except (Int×Int) Pt
 | .error x=>.error x
 | .ok (z,l)=>if hd l<0 then (if 60<z.2 then .error (5,0) else .ok z.1) else .error (2,Ao n l)
def bP (s:ByteArray):Except (Int×Int) Pt:=if 60<s.size then .error (1,0) else pq s.size (fO s.size (eD s.size 8) (ah s 0))
def Ub:Except (Int×Int) Pt->Int×Int
 | .error x=>x
 | .ok _=>(0,0)
theorem Bg (s:ByteArray) (i:Nat):aG ((Utf8.decode s i).1:Int)=true:=by
 have h:=mF s i
 have e:((Utf8.decode s i).1:Int)=(yB s i).1:=by rw [h]
 rw [e]
 have hend:∀ (size:Nat) (least:Int) (o:Option Int),aG (jq size least o).1=true:=by
  intro size least o
  cases o with
  | none=>rfl
  | some n=>
   rw [jq]
   split
   ·rfl
   ·split
    ·assumption
    ·rfl
 unfold yB
 simp only []
 have g0:=(s.get! i).toNat_lt
 split
 ·rw [aF];simp only [];omega
 ·repeat' split
  all_goals first | exact hend _ _ _ | rfl
def bq (l:List Sy):Prop:=∀ x∈l,aG (x.c:Int)=true
theorem bq.tail {l:List Sy} (h:bq l):bq l.tail:=fun x hx=>h x (List.mem_of_mem_tail hx)
theorem bq.hd {l:List Sy} (h:bq l) (h0:¬ hd l<0):aG (hd l)=true:=by
 cases l with
 | nil=>exact absurd (by decide) h0
 | cons x r=>exact h x (List.mem_cons_self ..)
theorem Bh (s:ByteArray):∀ (f p:Nat),bq (jr s f p)
 | 0,_=>by intro x hx;simp [jr] at hx
 | f+1,p=>by
  rw [jr]
  split
  ·intro x hx
   rcases List.mem_cons.1 hx with rfl | hx
   ·exact Bg s p
   ·exact Bh s f _ x hx
  ·intro x hx;simp at hx
theorem kJ (s:ByteArray) (p:Nat):bq (ah s p):=Bh s _ p
def Good {a:Type} (P:a->Prop) (r:bu a):Prop:=∀ v l,r=.ok (v,l)->P v/\bq l
theorem Good.bad {a:Type} {P:a->Prop} {e:Int} {n:Nat} {l:List Sy}:Good P (bad e n l):=fun _ _ h=>by simp [Go.Proofs.YtfolanohokflkaaGreatDoor.bad] at h
theorem Good.err {a:Type} {P:a->Prop} {x:Int×Int}:Good P (.error x:bu a):=fun _ _ h=>by cases h
theorem Good.ok {a:Type} {P:a->Prop} {v:a} {l:List Sy} (h:P v) (hl:bq l):Good P (.ok (v,l)):=fun _ _ e=>by cases e;exact ⟨h,hl⟩
theorem Good.map {a b:Type} {P:a->Prop} {Q:b->Prop} {g:a->b} {r:bu a} (h:Good P r) (hg:∀ v,P v->Q (g v)):Good Q (oI g r):=by
 cases r with
 | error x=>exact Good.err
 | ok y=>
  obtain ⟨v,l⟩:=y
  have:=h v l rfl
  exact Good.ok (hg v this.1) this.2
theorem yJ {n:Nat} {least:Int} {l:List Sy} (h:bq l):Good (fun _=>True) (bU n least l):=by
 unfold bU
 split
 ·split
  ·exact Good.bad
  ·intro v l' e
   refine ⟨trivial,?_⟩
   simp only [Except.ok.injEq] at e
   have e2:(kT l).2=l':=by rw [e]
   rw [<-e2]
   unfold kT
   split
   ·exact h.tail.tail
   ·exact h.tail
 ·exact Good.bad
theorem Bi {n:Nat} {m:jY} {l:List Sy} (h:bq l):Good (fun _=>True) (gT n m l):=by
 unfold gT;split
 ·exact Good.ok trivial h.tail
 ·exact Good.bad
theorem I7 {n:Nat} {l:List Sy} (h:bq l):Good (fun _=>True) (jc n l):=by
 unfold jc
 have g:=yJ (n:=n) (least:=0) h
 split
 ·exact Good.err
 ·rename_i a l1 e
  have h1:=(g _ _ e).2
  split
  ·split
   ·exact Good.ok trivial h1.tail.tail
   ·have g2:=yJ (n:=n) (least:=a) h1.tail
    split
    ·exact Good.err
    ·rename_i m l2 e2
     exact Bi (g2 _ _ e2).2
  ·exact Bi h1
theorem oh {n:Nat} {l:List Sy} (h:bq l):Good (fun _=>True) (eU n l):=by
 unfold eU
 split
 ·exact I7 h.tail
 ·split
  ·exact Good.ok trivial h.tail
  ·split
   ·exact Good.ok trivial h.tail
   ·exact Good.ok trivial h.tail
abbrev X7 (c:Int):Prop:=aG c=true
theorem I8:∀ (f:Nat) (v:Int) (k:Nat) {l:List Sy},bq l->bq (uw f v k l).2.2
 | 0,_,_,_,h=>h
 | f+1,v,k,l,h=>by
  rw [uw];split
  ·exact I8 f _ _ h.tail
  ·exact h
theorem QT {n:Nat} {l:List Sy} (h:bq l):Good X7 (oO n l):=by
 unfold oO
 split
 ·unfold lK
  split
  ·exact Good.bad
  ·split
   ·rename_i hs
    exact Good.ok hs (I8 6 0 0 h.tail).tail
   ·exact Good.bad
 ·exact Good.bad
theorem X8 {c:Int} (h:qR c=true):¬ c<0:=by
 unfold qR m_ at h
 simp at h;omega
theorem ry {n:Nat} {l:List Sy} (h:bq l):Good X7 (fE n l):=by
 unfold fE
 split
 ·exact QT h.tail
 ·split
  ·exact Good.ok (by decide) h.tail
  ·split
   ·rename_i he
    exact Good.ok (h.hd (X8 he)) h.tail
   ·exact Good.bad
theorem qc {n:Nat} {l:List Sy} (h:bq l):Good X7 (fu n l):=by
 unfold fu
 split
 ·exact ry h.tail
 ·split
  ·exact Good.bad
  ·rename_i hn
   exact Good.ok (h.hd (fun e=>hn (.inl e))) h.tail
theorem Gl {c:Int} (h:aG c=true):0<=c:=(aF.1 h).1
theorem Ol {a b:Int} (ha:aG a=true) (hb:aG b=true):Pos [(a,b)]:=fun x hx=>by simp at hx;subst hx;exact ⟨Gl ha,Gl hb⟩
theorem Bj {a:Int} (h:aG a=true):Tidy [(a,a)]:=⟨by show -1<a;have:=Gl h;omega,h,h,Int.le_refl _,trivial⟩
theorem vV (l:List Sy):Tidy (jO l):=by unfold jO;split<;>simp [zL,vU,Tidy,eO,aG,ku]
theorem Eu {n:Nat} {l:List Sy} (h:bq l):Good Pos (kH n l):=by
 unfold kH
 split
 ·exact Good.ok (vV l).pos h.tail.tail
 ·have g:=qc (n:=n) h
  split
  ·exact Good.err
  ·rename_i a l1 e
   obtain ⟨ha,h1⟩:=g _ _ e
   split
   ·have g2:=qc (n:=n) h1.tail
    split
    ·exact Good.err
    ·rename_i b l2 e2
     obtain ⟨hb,h2⟩:=g2 _ _ e2
     split
     ·exact Good.bad
     ·exact Good.ok (Ol ha hb) h2
   ·exact Good.ok (Ol ha ha) h1
theorem kK {n:Nat}:∀ (f:Nat) {s:af} {l:List Sy},Tidy s->bq l->Good Tidy (bR n f s l)
 | 0,_,_,_,_=>Good.bad
 | f+1,s,l,hs,h=>by
  rw [bR]
  split
  ·exact Good.ok hs h.tail
  ·have g:=Eu (n:=n) h
   split
   ·exact Good.err
   ·rename_i p l1 e
    obtain ⟨hp,h1⟩:=g _ _ e
    exact kK f (ja hs.pos hp) h1
theorem Mi {n:Nat} {l:List Sy} (h:bq l):Good Tidy (jP n l):=by
 unfold jP
 split
 ·have g:=kK (n:=n) (l.length+1) (s:=[]) trivial h.tail
  unfold Be
  split
  ·exact Good.err
  ·rename_i s l1 e
   obtain ⟨hs,h1⟩:=g _ _ e
   exact Good.ok (dD hs.pos) h1
 ·exact kK _ trivial h
theorem QU {n:Nat} {l:List Sy} (h:bq l):Good Tidy (gp n l):=by
 unfold gp
 split
 ·exact Mi h.tail
 split
 ·split
  ·exact Good.ok (vV l) h.tail.tail
  ·have g:=ry (n:=n) h.tail
   unfold QS
   split
   ·exact Good.err
   ·rename_i c l1 e
    obtain ⟨hc,h1⟩:=g _ _ e
    exact Good.ok (Bj hc) h1
 split
 ·exact Good.ok (dD n_) h.tail
 split
 ·exact Good.bad
 ·rename_i hn
  exact Good.ok (Bj (h.hd fun e=>hn (.inl e))) h.tail
abbrev uN (p:Pn):Prop:=sO p.1
abbrev fe (a:List Sy->bu Pn):Prop:=∀ l,bq l->Good uN (a l)
theorem Ev {n:Nat} {l:List Sy} (h:bq l):Good uN (og (gp n l)):=by
 have g:=QU (n:=n) h
 unfold og
 split
 ·exact Good.err
 ·rename_i s l1 e
  obtain ⟨hs,h1⟩:=g _ _ e
  exact Good.ok (by show sO (.set s);rw [sO];exact hs) h1
theorem Ew {n:Nat}:∀ (f:Nat) {z:Pn} {l:List Sy},uN z->bq l->Good uN (kI n f z l)
 | 0,_,_,_,_=>Good.bad
 | f+1,z,l,hz,h=>by
  rw [kI]
  split
  ·have g:=oh (n:=n) h
   split
   ·exact Good.err
   ·rename_i m l1 e
    exact Ew f (by show sO (.rep z.1 m.1 m.2.1);rw [sO];exact hz) (g _ _ e).2
  ·exact Good.ok hz h
theorem jd {n:Nat} {a:List Sy->bu Pn} (ha:fe a):∀ (f:Nat) {l:List Sy},bq l->Good uN (dZ n a f l)
 | 0,_,_=>Good.bad
 | f+1,l,h=>by
  rw [dZ]
  split
  ·have g:=jd (n:=n) ha f h.tail
   split
   ·exact Good.err
   ·rename_i z l1 e
    obtain ⟨hz,h1⟩:=g _ _ e
    exact Good.ok (by show sO (.not z.1);rw [sO];exact hz) h1
  ·have g:=ha l h
   split
   ·exact Good.err
   ·rename_i z l1 e
    obtain ⟨hz,h1⟩:=g _ _ e
    exact Ew _ hz h1
theorem Bl:∀ {l:List Pn},DJ (l.map Prod.fst)↔∀ p∈l,uN p
 | []=>by simp [DJ]
 | p::r=>by rw [List.map_cons,DJ,Bl];simp
theorem I9 {l:List Pn} (h:∀ p∈l,uN p):uN (fM l):=by
 unfold fM
 split
 ·exact h _ (List.mem_cons_self ..)
 ·show sO (.row _);rw [sO,Bl];exact h
theorem I_ {k:Bool} {l:List Pn} (h:∀ p∈l,uN p):uN (jk k l):=by
 unfold jk
 split
 ·exact h _ (List.mem_cons_self ..)
 ·show sO (.bf k _);rw [sO,Bl];exact h
theorem Om {z:List Pn} {y:Pn} (hz:∀ p∈z,uN p) (hy:uN y):∀ p∈z++[y],uN p:=by
 intro p hp
 rcases List.mem_append.1 hp with hp | hp
 ·exact hz p hp
 ·simp at hp;subst hp;exact hy
theorem mJ {n:Nat} {a:List Sy->bu Pn} (ha:fe a):∀ (f:Nat) {z:List Pn} {l:List Sy},(∀ p∈z,uN p)->bq l->Good (fun z=>∀ p∈z,uN p) (bM n a f z l)
 | 0,_,_,_,_=>Good.bad
 | f+1,z,l,hz,h=>by
  rw [bM]
  split
  ·exact Good.ok hz h
  ·have g:=jd (n:=n) ha (l.length+1) h
   split
   ·exact Good.err
   ·rename_i y l1 e
    obtain ⟨hy,h1⟩:=g _ _ e
    exact mJ ha f (Om hz hy) h1
theorem xN {y:Pn} (hy:uN y):∀ p∈[y],uN p:=by intro p hp;simp at hp;subst hp;exact hy
theorem good_row {n:Nat} {a:List Sy->bu Pn} (ha:fe a):fe (rowP n a):=by
 intro l h
 unfold rowP
 split
 ·exact Good.ok (I9 (by simp)) h
 ·have g:=jd (n:=n) ha (l.length+1) h
  split
  ·exact Good.err
  ·rename_i y l1 e
   obtain ⟨hy,h1⟩:=g _ _ e
   exact (mJ ha (l1.length+1) (xN hy) h1).map fun _ hv=>I9 hv
theorem mK {n:Nat} {a:List Sy->bu Pn} (ha:fe a) (sg:Int):∀ (f:Nat) {z:List Pn} {l:List Sy},(∀ p∈z,uN p)->bq l->Good (fun z=>∀ p∈z,uN p) (bO n a sg f z l)
 | 0,_,_,_,_=>Good.bad
 | f+1,z,l,hz,h=>by
  rw [bO]
  split
  ·have g:=ha l.tail h.tail
   split
   ·exact Good.err
   ·rename_i y l1 e
    obtain ⟨hy,h1⟩:=g _ _ e
    exact mK ha sg f (Om hz hy) h1
  ·exact Good.ok hz h
theorem Ja {n:Nat} {a:List Sy->bu Pn} (ha:fe a) (sg:Int) {g:List Pn->Pn} (hg:∀ z,(∀ p∈z,uN p)->uN (g z)):fe (qI n a sg g):=by
 intro l h
 unfold qI
 have g1:=ha l h
 split
 ·exact Good.err
 ·rename_i y l1 e
  obtain ⟨hy,h1⟩:=g1 _ _ e
  exact (mK ha sg (l1.length+1) (xN hy) h1).map hg
theorem sP {n:Nat} {a:List Sy->bu Pn} (ha:fe a):fe (ZV n a):=Ja (good_row ha) 38 fun _ hv=>I_ hv
theorem yK {n:Nat} {a:List Sy->bu Pn} (ha:fe a):fe (fO n a):=Ja (sP ha) 124 fun _ hv=>I_ hv
theorem jZ {n:Nat}:∀ k:Nat,fe (eD n k)
 | 0=>by
  intro l h
  rw [eD]
  split
  ·exact Good.bad
  ·exact Ev h
 | k+1=>by
  intro l h
  rw [eD]
  split
  ·have g:=yK (n:=n) (jZ (n:=n) k) l.tail h.tail
   unfold I6
   split
   ·exact Good.err
   ·rename_i z l1 e
    obtain ⟨hz,h1⟩:=g _ _ e
    split
    ·exact Good.ok hz h1.tail
    ·exact Good.bad
  ·exact Ev h
theorem Bo {s:ByteArray} {q:Pt} (h:bP s=.ok q):sO q:=by
 unfold bP at h
 split at h
 ·cases h
 ·have g:=yK (n:=s.size) (jZ (n:=s.size) 8) (ah s 0) (kJ s 0)
  unfold pq at h
  split at h
  ·cases h
  ·rename_i z l e
   obtain ⟨hz,_⟩:=g _ _ e
   split at h
   ·split at h
    ·cases h
    ·cases h;exact hz
   ·cases h
end Go.Proofs.YtfolanohokflkaaGreatDoor
