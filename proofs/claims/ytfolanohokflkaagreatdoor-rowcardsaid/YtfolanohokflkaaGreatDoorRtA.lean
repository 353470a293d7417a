import Derived.Test.YtfolanohokflkaaGreatDoorTxtB
import Derived.Test.YtfolanohokflkaaGreatDoorClsB
import Derived.Test.YtfolanohokflkaaGreatDoorOnlD
import Derived.Test.YtfolanohokflkaaGreatDoorRpG
import Derived.Test.YtfolanohokflkaaGreatDoorNdT
import Derived.Test.YtfolanohokflkaaGreatDoorPSpec
import Derived.Test.YtfolanohokflkaaGreatDoorNsA
import Derived.Test.YtfolanohokflkaaGreatDoorBcF
import Derived.WalkKit
import Derived.WalkSpells
import Derived.WalkLawsBesides
import Derived.WalkMore
import Derived.Deep.QuietTactic
import Derived.BigQuiet
namespace Go.Proofs.YtfolanohokflkaaGreatDoor
open Go.RowKit
def mF (W X:World) (F:Nat->Prop):Prop:=∀ k,F k->(∃ cur,W.heap[k]? = some (.cells cur 65 (0,0)))->X.heap[k]? = W.heap[k]?
theorem TF.typed {X:World} {t:TB} {T:List Te} {N S C:List (Value×Value)} (h:bf X t T N S C) {k:Nat} {cur:Array Value} {ty:TypeId} {z:Nat×Nat} (hk:X.heap[k]? = some (.cells cur ty z)) (h1:ty≠131) (h2:ty≠161):¬ TF t k:=by
 intro hf
 rcases hf with rfl | rfl | rfl | rfl | e
 ·rw [h.tb] at hk;injection hk with hk;injection hk with _ e;exact h1 e.symm
 ·rw [h.nb] at hk;injection hk with hk;cases hk
 ·rw [h.sb] at hk;injection hk with hk;cases hk
 ·rw [h.cb] at hk;injection hk with hk;cases hk
 ·obtain ⟨_,hx | ⟨g,cap,cur',hv,hb',hg',rest⟩⟩:=h.row
  ·have:t.ta=none:=by injection hx.1
   simp [TB.row,this] at e
  ·injection hv with e1
   simp [TB.row,e1] at e
   subst e
   rw [hg'] at hk;injection hk with hk;injection hk with _ e;exact h2 e.symm
theorem bq.typed {X X':World} {t t':TB} {T:List Te} {N S C:List (Value×Value)} (h:bf X t T N S C) (f:bq t t' X X') {k:Nat} {cur:Array Value} {ty:TypeId} {z:Nat×Nat} (hk:X.heap[k]? = some (.cells cur ty z)) (h1:ty≠131) (h2:ty≠161):X'.heap[k]? = X.heap[k]?:=
 f.block k (Array.getElem?_eq_some_iff.1 hk).1 (TF.typed h hk h1 h2)
theorem mF.below {W X X':World} {F:Nat->Prop} (h:mF W X F) (hb:Below X.heap.size X X'):mF W X' F:=fun k hk hc=>by
 obtain ⟨cur,hc'⟩:=hc
 have e:=h k hk ⟨cur,hc'⟩
 have hl:k<X.heap.size:=(Array.getElem?_eq_some_iff.1 (e.trans hc')).1
 exact (hb.block k hl).trans e
theorem mF.tab {W X X':World} {F:Nat->Prop} {t t':TB} {T:List Te} {N S C:List (Value×Value)} (h:mF W X F) (ht:bf X t T N S C) (f:bq t t' X X'):mF W X' F:=fun k hk hc=>by
 obtain ⟨cur,hc'⟩:=hc
 have e:=h k hk ⟨cur,hc'⟩
 exact (f.typed ht (e.trans hc') (by decide) (by decide)).trans e
theorem gD {W X:World} {F:Nat->Prop} {pv:Value} {aL:List Nd} (h:jG W F pv aL) (hs:mF W X F):X.ownsRow 0 65 7 pv aL.length (dN aL):=by
 obtain ⟨hl,hx | ⟨g,cap,cur,hv,hb',hg,rest⟩⟩:=h.1
 ·exact ⟨hl,.inl hx⟩
 ·refine ⟨hl,.inr ⟨g,cap,cur,hv,hb',?_,rest⟩⟩
  rw [hs g (h.2 g (by rw [hv];rfl)) ⟨cur,hg⟩]
  exact hg
theorem nD {w w':World} {base e size n:Nat} {v:Value} {xs:List Value} {t t':TB} {T:List Te} {N S C:List (Value×Value)} (h:w.ownsRow base e size v n xs) (ht:bf w t T N S C) (f:bq t t' w w') (h1:e≠131) (h2:e≠161):w'.ownsRow base e size v n xs:=by
 obtain ⟨hl,hx | ⟨g,cap,cur,hv,hb',hg,rest⟩⟩:=h
 ·exact ⟨hl,.inl hx⟩
 ·exact ⟨hl,.inr ⟨g,cap,cur,hv,hb',by rw [f.typed ht hg h1 h2];exact hg,rest⟩⟩
section
variable {w:World} {t:TB} {T:List Te} {S C:List (Value×Value)}
end
end Go.Proofs.YtfolanohokflkaaGreatDoor
namespace Go.Proofs.YtfolanohokflkaaGreatDoor
open Go.RowKit
open Tm (eps)
section
variable {w W:World} {t:TB} {T:List Te} {N S C:List (Value×Value)} {B:List Int} {G:List Gx} {V:List Value}
theorem Qs {R:List Te×Nat} {x:Nat} {y z:Tm} (hT:TI B R.1) (hL:R.1.length<=gH) (hx:Rp R.1 x y) (hz:Rp R.1 R.2 z):Op B R.1 (sU R x) (au y z) (dZ y):=
 Op.chain (gH+1) hT (by have:=hx.lt;omega) hx hz
theorem LF {M:Nat}:∀ (xs:List Nat) (R:List Te×Nat) (z:Tm),TI B R.1->Rp R.1 R.2 z->R.1.length+xs.length*M<=gH->(∀ x∈xs,∃ y,Rp R.1 x y/\dZ y<=M)->∃ z',Op B R.1 (xs.foldl sU R) z' (xs.length*M)
 | [],R,z,hT,hz,_,_=>⟨z,by simpa using Op.same hT hz⟩
 | x::xs,R,z,hT,hz,hL,h=>by
  obtain ⟨y,hy,hM⟩:=h x (List.mem_cons_self ..)
  rw [List.length_cons,Nat.add_mul,Nat.one_mul] at hL
  have o1:=Qs hT (by omega) hy hz
  have hl:=o1.len
  obtain ⟨z',o2⟩:=LF (M:=M) xs (sU R x) (au y z) o1.ti o1.rp (by omega) fun x' hx'=>by
   obtain ⟨y',h1,h2⟩:=h x' (List.mem_cons_of_mem _ hx')
   exact ⟨y',o1.up h1,h2⟩
  refine ⟨z',(o1.trans o2).mono ?_⟩
  rw [List.length_cons,Nat.add_mul,Nat.one_mul]
  omega
theorem acR {M:Nat} (hT:TI B T):∀ {ns:List Nat} {ys:List Tm},iA T ns ys->T.length+ns.length*M<=gH->(∀ y∈ys,dZ y<=M)->Op B T (zM T ns) (kP ys) (ns.length*M):=by
 intro ns ys h
 induction h with
 | nil=>intro _ _;exact (show Op B T (T,1) eps 0 from Op.same hT hT.r1).mono (Nat.zero_le _)
 | @cons n y l ts hn _ ih=>
  intro hL hM
  rw [List.length_cons,Nat.add_mul,Nat.one_mul] at hL
  have o1:=ih (by omega) fun y hy=>hM y (List.mem_cons_of_mem _ hy)
  have e:zM T (n::l)=sU (zM T l) n:=by unfold zM;rw [List.reverse_cons,List.foldl_append];rfl
  have hl:=o1.len
  have o2:=Qs o1.ti (by omega) (o1.up hn) o1.rp
  rw [e]
  refine (o1.trans o2).mono ?_
  have:=hM y (List.mem_cons_self ..)
  rw [List.length_cons,Nat.add_mul,Nat.one_mul]
  omega
theorem FN {M:Nat} (hT:TI B T) {ns:List Nat} {ys:List Tm} (h:iA T ns ys) (hL:T.length+ns.length*M<=gH) (hM:∀ y∈ys,dZ y<=M):KM T ns:=by
 refine ⟨fun pre hp=>?_,h.lt⟩
 have hle:pre.length*M<=ns.length*M:=Nat.mul_le_mul_right _ hp
 obtain ⟨z,o⟩:=LF (M:=M) (pre.map fun x:Fin ns.length=>ns[x.val]) (T,1) eps hT hT.r1 (by rw [List.length_map];show T.length+_<=_;omega) fun x hx=>by
  obtain ⟨j,_,rfl⟩:=List.mem_map.1 hx
  obtain ⟨y,h1,h2⟩:=h.get (List.getElem?_eq_getElem j.isLt)
  exact ⟨y,h2,hM y (List.mem_iff_getElem?.2 ⟨_,h1⟩)⟩
 rw [List.length_map] at o
 have:=o.len
 exact ⟨⟨o.sub,o.rp.lt,o.ti.wf⟩,by show (_:List Te).length<=_;have h2:((pre.map fun x=>ns[x.val]).foldl sU (T,1)).1.length<=T.length+pre.length*M:=this;unfold RP;omega⟩
theorem XH {w0:World} {v:Value} {ns:List Nat} (h:bf w t T N S C) (ho:w.ownsRow w0.heap.size 3 1 v ns.length (ints (ay ns))):Wt w (fun k=>k<w.heap.size/\¬ TF t k) v ns:=by
 have ho':=ho
 obtain ⟨hl,⟨hv,hz⟩ | ⟨g,cap,cur,hv,hb,hg,rest⟩⟩:=ho
 ·left
  refine ⟨hv,List.length_eq_zero_iff.1 ?_⟩
  first | exact hz | simpa [ints,ay] using hz
 ·right
  subst hv
  refine ⟨g,cap,rfl,⟨(Array.getElem?_eq_some_iff.1 hg).1,xy h ho'⟩,fun j hj=>?_⟩
  rw [ho'.cellAt j (by omega)]
  unfold ints ay
  rw [List.getElem?_map,List.getElem?_map,List.getElem?_eq_getElem hj];rfl
theorem Ot {ok:Nat->Prop} {M:Nat} {a:Option Addr} {ln cap:Nat} {ns:List Nat} {ys:List Tm} {w0:World} (h:Hid (Sz B w t T S C)) (hr:iA T ns ys) (hL:T.length+ns.length*M<=gH) (hM:∀ y∈ys,dZ y<=M) (hz:ns.length<=100000) (ho:w.ownsRow w0.heap.size 3 1 (.slice a ln cap) ns.length (ints (ay ns))) :
  Calls Tryz.prog 80 #[.pointer (some ⟨t.tb,0,none⟩),.slice a ln cap] w (BO B G V ok (ns.length*M) (kP ys) w t T S):=by
 have o:=acR (aa h).ti hr hL hM
 exact (KN (hide (aa h).tab) (hide (XH (aa h).tab ho)) (hide (FN (aa h).ti hr hL hM)) (aa h).ti.r1.lt hz).mono fun e w' ht=>BO.of h o ht
end
end Go.Proofs.YtfolanohokflkaaGreatDoor
namespace Go.Proofs.YtfolanohokflkaaGreatDoor
open Go.RowKit
open Tm (eps)
section
variable {w W:World} {t:TB} {T:List Te} {N S C:List (Value×Value)} {B:List Int}
theorem aaE {ok:Nat->Prop} {i:Nat} {s:Tm} (h:Hid (Sz B w t T S C)) (hi:Rp T i s) (hl:T.length+1<=gH) :
  Calls Tryz.prog 117 #[.pointer (some ⟨t.tb,0,none⟩),.int .i64 i] w (BO B [] [] ok 1 (gN s) w t T S):=by
 have ho:=Op.star (aa h).ti hi
 exact (Iz (hide (aa h).tab) hi.lt (by have:=ho.len;omega)).mono fun e w' ht=>BO.of h ho ht
theorem Qt {T:List Te} {K:List Value}:nk [] T K=0:=rfl
theorem Nx.len {ok:Nat->Prop} {g:Nat} {w':World} {t':TB} {T':List Te} {S':List (Value×Value)} (h:Nx [] [] ok g w t T S w' t' T' S'):T'.length<=T.length+g:=by
 have:=h.pay
 rw [Qt,Qt] at this
 omega
theorem Qu {n i:Nat} {a:Tm} (h:Rp T i a):iA T (List.replicate n i) (List.replicate n a):=by
 induction n with
 | zero=>exact .nil
 | succ n ih=>rw [List.replicate_succ,List.replicate_succ];exact .cons h ih
theorem Dq {α:Type} (n:Nat) (a:α):List.replicate (n+1) a=List.replicate n a++[a]:=by rw [List.replicate_succ']
theorem Qv {M n m:Nat} {a b:Tm} (ha:dZ a<=M) (hb:dZ b<=M):∀ y∈List.replicate n a++List.replicate m b,dZ y<=M:=fun y hy=>by
 rcases List.mem_append.1 hy with q | q
 ·rw [List.eq_of_mem_replicate q];exact ha
 ·rw [List.eq_of_mem_replicate q];exact hb
set_option maxRecDepth 100000 in
set_option maxHeartbeats 4000000 in
theorem LG {ok:Nat->Prop} {i n M g:Nat} {a:Tm} (h:Hid (Sz B w t T S C)) (hi:Rp T i a) (hn:n<=1000) (h1:dZ a<=M) (h2:dZ (gN a)<=M) (hg:(n+1)*M+1<=g) (hl:T.length+g<=gH) :
  Calls Tryz.prog 81 #[.pointer (some ⟨t.tb,0,none⟩),.int .i64 i,.int .i64 (n:Int),.int .i64 (-1)] w (BO B [] [] ok g (mJ a n none) w t T S):=by
 have HRT:Hid (mJ a n none=kP (List.replicate n a++[gN a])):=JL a n
 have HST:=hide (fun (wr:World) (hb:Below w.heap.size w wr)=>aaE (ok:=ok) (Sz.below h hb) hi (by omega))
 have HRO:=hide (fun (w3:World) (t3:TB) (T3:List Te) (S3 C3:List (Value×Value)) (r:Nat) (ao:Option Addr) (cap:Nat) (h3:Hid (Sz B w3 t3 T3 S3 C3)) (hr3:Rp T3 r (gN a)) (hi3:Rp T3 i a) (hl3:T3.length<=T.length+1) (ho:w3.ownsRow w.heap.size 3 1 (.slice ao (n+1) cap) (n+1) (ints (ay (List.replicate n i++[r]))))=>Ot (G:=[]) (V:=[]) (ok:=ok) (M:=M) (w0:=w) (a:=ao) (ln:=n+1) (cap:=cap) h3 (ns:=List.replicate n i++[r]) (ys:=List.replicate n a++[gN a]) (iA.app (Qu hi3) (.cons hr3 .nil)) (by rw [List.length_append,List.length_replicate];show T3.length+(n+1)*M<=gH;omega) (by
   have:=Qv (n:=n) (m:=1) h1 h2
   rwa [List.replicate_one] at this) (by rw [List.length_append,List.length_replicate];show n+1<=_;omega) (by rw [List.length_append,List.length_replicate];exact ho))
 have HUP:Hid (∀ {w':World} {t':TB} {T':List Te} {S':List (Value×Value)} {wr:World},Nx [] [] ok 1 wr t T S w' t' T' S'->Rp T' i a):=fun hn=>hn.rp hi
 have Un:Hid (∀ k,TF t k->k<w.heap.size):=fun k hk=>(aa h).tab.foot hk
 have Tg:=h
 rw [aa HRT]
 clear h hi h1 h2
 go_enter Tryz.func81,Tryz.ntmps81
 go_wp2_with fail
 go_loopw [9,11] (fun v k wr=>∃ (k':Nat) (ao:Option Addr) (cap:Nat),k'<=n/\k=.int .i64 (k':Int)/\v=.slice ao k' cap/\Hid (wr.ownsRow w.heap.size 3 1 (.slice ao k' cap) k' (ints (ay (List.replicate k' i))))/\Hid (Below w.heap.size w wr)) (fun _ k _=>n - (intOf k).toNat)
 case atStart=>exact ⟨0,none,0,Nat.zero_le _,rfl,rfl,World.ownsRow_nil _ _ _ _,Below.refl _ _⟩
 case round=>
  obtain ⟨k',ao,cap,hk',rfl,rfl,HO,HB⟩:=hrel
  have hws:w.heap.size<=wr.heap.size:=(aa HB).size
  by_cases hlt:k'<n
  ·have T_:(k':Int)<(n:Int):=by omega
   go_wp2_with (at_builtin;refine jV Tryz.underlying31 gZ rfl (by decide) (by decide) w.heap.size w wr _ _ [.int .i64 (i:Int)] _ (.tmp 13) (.tmp 15) rfl rfl rfl wr.heap.size rfl rfl HO HB hws (by omega) rfl (by intro u hu;simp at hu;rw [hu];rfl) ?_;intro g5 cap5 w5 o_ jI FU)
   go_roundw
   case rel=>
    refine ⟨k'+1,some ⟨g5,0,none⟩,cap5,by omega,by go_num,rfl,?_,jI⟩
    show World.ownsRow _ _ _ _ _ _ _
    rw [Dq,iB,show ints (ay (List.replicate k' i)++ay [i])=ints (ay (List.replicate k' i))++[.int .i64 (i:Int)] from by simp [ints,ay]]
    exact o_
   case measure=>simp [intOf];omega
  ·obtain rfl:k'=n:=by omega
   have fQ:=hide (aa HST wr (aa HB))
   clear HST
   go_wp2_with (first
    | (go_at_call 117;refine (aa fQ).mono ?_;clear fQ;rintro e w2 ⟨r2,t2,T2,S2,C2,rfl,hr2,xQ,iI⟩;have jJ:=hide (Ao (aa (Sz.below Tg (aa HB))).tab (aa HO) (aa iI).fr);have HFF:Hid (bq t t2 w w2):=(bq.below (aa HB)).trans (aa iI).fr;have hw2:w.heap.size<=w2.heap.size:=(aa HFF).size;have Xf:Hid (Below w.heap.size w2 w2):=Below.refl _ _;have HR2:=hide hr2;have hl2:T2.length<=T.length+1:=(aa iI).len;have HI2:=hide (aa HUP (aa iI));clear hr2)
    | (at_builtin;refine jV Tryz.underlying31 gZ rfl (by decide) (by decide) w.heap.size w2 w2 _ _ [.int .i64 (r2:Int)] _ (.tmp 21) (.tmp 25) rfl rfl rfl w2.heap.size rfl rfl jJ Xf hw2 (by omega) rfl (by intro u hu;simp at hu;rw [hu];rfl) ?_;intro g5 cap5 w5 o_ jI FU;have HY5:Hid (Sz B w5 t2 T2 S2 C2):=Ob (aa xQ) (aa HFF) (aa Un) (aa jI) (aa FU);have Mt:=hide (xx (aa HFF) (aa jI));have YT:Hid (w5.ownsRow w.heap.size 3 1 (.slice (some ⟨g5,0,none⟩) (k'+1) cap5) (k'+1) (ints (ay (List.replicate k' i++[r2])))):=(by show World.ownsRow _ _ _ _ _ _ _;rw [iB,show ints (ay (List.replicate k' i)++ay [r2])=ints (ay (List.replicate k' i))++[.int .i64 (r2:Int)] from by simp [ints,ay]];exact o_);have HRW:=hide (aa HRO w5 t2 T2 S2 C2 r2 _ cap5 HY5 (aa HR2) (aa HI2) hl2 (aa YT));rw [(aa Mt).tb] at HRW;clear HRO)
    | (go_at_call 80;refine (aa HRW).mono ?_;clear HRW;rintro e w6 HH;have Db:=hide HH;obtain ⟨r6,t6,T6,S6,C6,rfl,-⟩:=HH))
   go_ret
   have hn2:=aa iI
   have h1:=BO.then (g:=1) ⟨hn2.sub,hn2.zN,hn2.new,aa Mt,hn2.pay⟩ (aa Db)
   exact h1.less (by rw [List.length_append,List.length_replicate];show 1+(k'+1)*M<=g;omega)
set_option maxRecDepth 100000 in
set_option maxHeartbeats 4000000 in
theorem LH {ok:Nat->Prop} {i n m M K g:Nat} {a:Tm} (hB:B.length<=480) (h:Hid (Sz B w t T S C)) (hi:Rp T i a) (hn:n<=m) (hm:m<=1000) (h1:dZ a<=M) (h2:dZ (mW a)<=M) (h3:(memT false a).length<=200000) (h4:(memT false (mW a)).length<=K) (hK:K<=200000) (hg:m*M+(m - n)*(K+1)+1<=g) (hl:T.length+g<=gH) :
  Calls Tryz.prog 81 #[.pointer (some ⟨t.tb,0,none⟩),.int .i64 i,.int .i64 (n:Int),.int .i64 (m:Int)] w (BO B [] [] ok g (mJ a n (some m)) w t T S):=by
 have HRT:Hid (mJ a n (some m)=kP (List.replicate n a++List.replicate (m - n) (mW a))):=JM a n m
 have HAN:=hide (fun (w3:World) (t3:TB) (T3:List Te) (S3 C3:List (Value×Value)) (q:Nat) (h3':Hid (Sz B w3 t3 T3 S3 C3)) (hi3:Rp T3 i a) (hq:q<m - n) (hl3:T3.length<=T.length+q*(K+1))=>Qf (G:=[]) (V:=[]) (ok:=ok) (g0:=w3.heap.size) h3' hB (aa h3').ti.r1 hi3 (by simp [memT]) h3 (show (memT false (mW a)).length<=200000 by omega) (show T3.length+(memT false (mW a)).length+2<=gH by
  have:(q+1)*(K+1)<=(m - n)*(K+1):=Nat.mul_le_mul_right _ (by omega)
  rw [Nat.add_mul,Nat.one_mul] at this
  omega) rfl)
 rw [show ((1:Nat):Int)=1 from rfl] at HAN
 have HRO:=hide (fun (w3:World) (t3:TB) (T3:List Te) (S3 C3:List (Value×Value)) (rs:List Nat) (ao:Option Addr) (cap:Nat) (h3':Hid (Sz B w3 t3 T3 S3 C3)) (hr3:iA T3 rs (List.replicate n a++List.replicate (m - n) (mW a))) (hl3:T3.length<=T.length+(m - n)*(K+1)) (hrl:rs.length=m) (ho:w3.ownsRow w.heap.size 3 1 (.slice ao m cap) m (ints (ay rs)))=>Ot (G:=[]) (V:=[]) (ok:=ok) (M:=M) (w0:=w) (a:=ao) (ln:=m) (cap:=cap) h3' hr3 (by rw [hrl];omega) (Qv h1 h2) (by omega) (by rw [hrl];exact ho))
 have Un:Hid (∀ k,TF t k->k<w.heap.size):=fun k hk=>(aa h).tab.foot hk
 have Tg:=h
 have HI:=hide hi
 have HH4:=hide h4
 rw [aa HRT]
 clear h hi h1 h2 h3 h4
 have hmw:IntKind.i64.wrap ((m:Int) - (n:Int))=((m - n:Nat):Int):=by
  have:(m:Int) - (n:Int)=((m - n:Nat):Int):=by omega
  rw [this]
  simp [IntKind.wrap,IntKind.bits,IntKind.signed];omega
 have hm1:¬ (m:Int)=-1:=by omega
 have hm2:((m:Int)==-1)=false:=by simp
 go_enter Tryz.func81,Tryz.ntmps81
 go_wp2_with fail
 go_loopw [9,11] (fun v k wr=>∃ (k':Nat) (ao:Option Addr) (cap:Nat),k'<=n/\k=.int .i64 (k':Int)/\v=.slice ao k' cap/\Hid (wr.ownsRow w.heap.size 3 1 (.slice ao k' cap) k' (ints (ay (List.replicate k' i))))/\Hid (Below w.heap.size w wr)) (fun _ k _=>n - (intOf k).toNat)
 case atStart=>exact ⟨0,none,0,Nat.zero_le _,rfl,rfl,World.ownsRow_nil _ _ _ _,Below.refl _ _⟩
 case round=>
  obtain ⟨k',ao,cap,hk',rfl,rfl,HO,HB⟩:=hrel
  have hws:w.heap.size<=wr.heap.size:=(aa HB).size
  by_cases hlt:k'<n
  ·have T_:(k':Int)<(n:Int):=by omega
   go_wp2_with (at_builtin;refine jV Tryz.underlying31 gZ rfl (by decide) (by decide) w.heap.size w wr _ _ [.int .i64 (i:Int)] _ (.tmp 13) (.tmp 15) rfl rfl rfl wr.heap.size rfl rfl HO HB hws (by omega) rfl (by intro u hu;simp at hu;rw [hu];rfl) ?_;intro g5 cap5 w5 o_ jI FU)
   go_roundw
   case rel=>
    refine ⟨k'+1,some ⟨g5,0,none⟩,cap5,by omega,by go_num,rfl,?_,jI⟩
    show World.ownsRow _ _ _ _ _ _ _
    rw [Dq,iB,show ints (ay (List.replicate k' i)++ay [i])=ints (ay (List.replicate k' i))++[.int .i64 (i:Int)] from by simp [ints,ay]]
    exact o_
   case measure=>simp [intOf];omega
  ·obtain rfl:k'=n:=by omega
   go_wp2_with fail
   go_loopw [9,31] (fun v k wr2=>∃ (q:Nat) (ao:Option Addr) (cap:Nat) (rs:List Nat) (t1:TB) (T1:List Te) (S1 C1:List (Value×Value)),q<=m - k'/\k=.int .i64 (q:Int)/\v=.slice ao (k'+q) cap/\Hid (rs.length=k'+q)/\Hid (wr2.ownsRow w.heap.size 3 1 (.slice ao (k'+q) cap) (k'+q) (ints (ay rs)))/\Hid (iA T1 rs (List.replicate k' a++List.replicate q (mW a)))/\Hid (Sz B wr2 t1 T1 S1 C1)/\Hid (Nx [] [] ok (q*(K+1)) w t T S wr2 t1 T1 S1)) (fun _ k _=>(m - k') - (intOf k).toNat)
   case atStart=>exact ⟨0,ao,cap,List.replicate k' i,t,T,S,C,Nat.zero_le _,rfl,rfl,by show _=_;simp,HO,by rw [List.replicate_zero,List.append_nil];exact Qu (aa HI),Sz.below Tg (aa HB),by rw [Nat.zero_mul];exact hide (Nx.world (bq.below (aa HB)))⟩
   case round=>
    rename_i wr2
    obtain ⟨q,ao,cap,rs,t1,T1,S1,C1,hq,rfl,rfl,HM,HO,HRS,HY,HN⟩:=hrel
    have hws:w.heap.size<=wr.heap.size:=(aa HN).fr.size
    by_cases hlq:q<m - k'
    ·have T_:(q:Int)<((m - k':Nat):Int):=by omega
     have HA1:=hide (aa HAN wr t1 T1 S1 C1 q HY ((aa HN).rp (aa HI)) hlq (aa HN).len)
     rw [(aa HN).fr.tb] at HA1
     go_wp2_with (first
      | (go_at_call 79;refine (aa HA1).mono ?_;clear HA1;rintro e w2 ⟨r2,t2,T2,S2,C2,rfl,hr2,xQ,iI⟩;have jJ:=hide (Ao (aa (Sz.alloc HY _)).tab ((aa HO).alloc _) (aa iI).fr);have lQ:=hide ((aa HN).trans ((Nx.world (bq.below ((Below.refl _ _).alloc (Nat.le_refl _) _))).trans (aa iI)));have hw2:w.heap.size<=w2.heap.size:=(aa lQ).fr.size;have Xf:Hid (Below w.heap.size w2 w2):=Below.refl _ _;have HR2:=hide hr2;clear hr2)
      | (at_builtin;refine jV Tryz.underlying31 gZ rfl (by decide) (by decide) w.heap.size w2 w2 _ _ [.int .i64 (r2:Int)] _ (.tmp 33) (.tmp 38) rfl rfl rfl w2.heap.size rfl rfl jJ Xf hw2 (by omega) rfl (by intro u hu;simp at hu;rw [hu];rfl) ?_;intro g5 cap5 w5 o_ jI FU;have HY5:Hid (Sz B w5 t2 T2 S2 C2):=Ob (aa xQ) (aa lQ).fr (aa Un) (aa jI) (aa FU)))
     go_roundw
     case rel=>
      refine ⟨q+1,some ⟨g5,0,none⟩,cap5,rs++[r2],t2,T2,S2,C2,by omega,by go_num,rfl,by show _=_;rw [List.length_append,aa HM];rfl,?_,?_,HY5,?_⟩
      ·show World.ownsRow _ _ _ _ _ _ _
       rw [iB,show ints (ay rs++ay [r2])=ints (ay rs)++[.int .i64 (r2:Int)] from by simp [ints,ay]]
       exact o_
      ·show iA _ _ _
       rw [Dq,<-List.append_assoc]
       refine iA.app ?_ (.cons (aa HR2) .nil)
       obtain ⟨X,eX⟩:=(aa iI).sub
       rw [eX]
       exact (aa HRS).mono
      ·have h3:=aa lQ
       exact ⟨h3.sub,h3.zN,h3.new,xx h3.fr (aa jI),by have:=h3.pay;have h4:(memT false (aj false [eps,a])).length<=K:=aa HH4;rw [Nat.add_mul,Nat.one_mul];omega⟩
     case measure=>simp [intOf];omega
    ·obtain rfl:q=m - k':=by omega
     have hkm:k'+(m - k')=m:=by omega
     rw [hkm] at HO HM
     rw [hkm]
     have HRW:=hide (aa HRO wr t1 T1 S1 C1 rs ao cap HY (aa HRS) (aa HN).len (aa HM) (aa HO))
     rw [(aa HN).fr.tb] at HRW
     clear HRO HAN
     go_wp2_with (go_at_call 80;refine (aa HRW).mono ?_;clear HRW;rintro e w6 HH;have Db:=hide HH;obtain ⟨r6,t6,T6,S6,C6,rfl,-⟩:=HH)
     go_ret
     exact (BO.then (aa HN) (aa Db)).less (by rw [aa HM];omega)
end
end Go.Proofs.YtfolanohokflkaaGreatDoor
