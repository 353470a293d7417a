import Derived.Test.YtfolanohokflkaaGreatDoorTxtB
import Derived.Test.YtfolanohokflkaaGreatDoorOnlA
import Derived.Test.YtfolanohokflkaaGreatDoorOnlD
import Derived.Test.YtfolanohokflkaaGreatDoorRpG
import Derived.Test.YtfolanohokflkaaGreatDoorNdT
import Derived.Test.YtfolanohokflkaaGreatDoorPSpec
import Derived.Test.YtfolanohokflkaaGreatDoorNsA
import Derived.Test.YtfolanohokflkaaGreatDoorBcF
import Derived.WalkKit
import Derived.WalkSpells
import Derived.WalkLawsBesides
import Derived.WalkMore
import Derived.Deep.QuietTactic
import Derived.BigQuiet
namespace Go.Proofs.YtfolanohokflkaaGreatDoor
open Go.RowKit
def ma (W X:World) (F:Nat->Prop):Prop:=∀ k,F k->(∃ cur,W.heap[k]? = some (.cells cur 65 (0,0)))->X.heap[k]? = W.heap[k]?
theorem TF.typed {X:World} {t:TB} {T:List Te} {N S C:List (Value×Value)} (h:aX X t T N S C) {k:Nat} {cur:Array Value} {ty:TypeId} {z:Nat×Nat} (hk:X.heap[k]? = some (.cells cur ty z)) (h1:ty≠131) (h2:ty≠161):¬ TF t k:=by
 intro hf
 rcases hf with rfl | rfl | rfl | rfl | e
 ·rw [h.tb] at hk;injection hk with hk;injection hk with _ e;exact h1 e.symm
 ·rw [h.nb] at hk;injection hk with hk;cases hk
 ·rw [h.sb] at hk;injection hk with hk;cases hk
 ·rw [h.cb] at hk;injection hk with hk;cases hk
 ·obtain ⟨_,hx | ⟨g,cap,cur',hv,hb',hg',rest⟩⟩:=h.row
  ·have:t.ta=none:=by injection hx.1
   simp [TB.row,this] at e
  ·injection hv with e1
   simp [TB.row,e1] at e
   subst e
   rw [hg'] at hk;injection hk with hk;injection hk with _ e;exact h2 e.symm
theorem a_.typed {X X':World} {t t':TB} {T:List Te} {N S C:List (Value×Value)} (h:aX X t T N S C) (f:a_ t t' X X') {k:Nat} {cur:Array Value} {ty:TypeId} {z:Nat×Nat} (hk:X.heap[k]? = some (.cells cur ty z)) (h1:ty≠131) (h2:ty≠161):X'.heap[k]? = X.heap[k]?:=
 f.block k (Array.getElem?_eq_some_iff.1 hk).1 (TF.typed h hk h1 h2)
theorem ma.below {W X X':World} {F:Nat->Prop} (h:ma W X F) (hb:Below X.heap.size X X'):ma W X' F:=fun k hk hc=>by
 obtain ⟨cur,hc'⟩:=hc
 have e:=h k hk ⟨cur,hc'⟩
 have hl:k<X.heap.size:=(Array.getElem?_eq_some_iff.1 (e.trans hc')).1
 exact (hb.block k hl).trans e
theorem ma.tab {W X X':World} {F:Nat->Prop} {t t':TB} {T:List Te} {N S C:List (Value×Value)} (h:ma W X F) (ht:aX X t T N S C) (f:a_ t t' X X'):ma W X' F:=fun k hk hc=>by
 obtain ⟨cur,hc'⟩:=hc
 have e:=h k hk ⟨cur,hc'⟩
 exact (f.typed ht (e.trans hc') (by decide) (by decide)).trans e
theorem fT {W X:World} {F:Nat->Prop} {pv:Value} {aM:List Nd} (h:jo W F pv aM) (hs:ma W X F):X.ownsRow 0 65 7 pv aM.length (dE aM):=by
 obtain ⟨hl,hx | ⟨g,cap,cur,hv,hb',hg,rest⟩⟩:=h.1
 ·exact ⟨hl,.inl hx⟩
 ·refine ⟨hl,.inr ⟨g,cap,cur,hv,hb',?_,rest⟩⟩
  rw [hs g (h.2 g (by rw [hv];rfl)) ⟨cur,hg⟩]
  exact hg
theorem mW {w w':World} {base e size n:Nat} {v:Value} {xs:List Value} {t t':TB} {T:List Te} {N S C:List (Value×Value)} (h:w.ownsRow base e size v n xs) (ht:aX w t T N S C) (f:a_ t t' w w') (h1:e≠131) (h2:e≠161):w'.ownsRow base e size v n xs:=by
 obtain ⟨hl,hx | ⟨g,cap,cur,hv,hb',hg,rest⟩⟩:=h
 ·exact ⟨hl,.inl hx⟩
 ·exact ⟨hl,.inr ⟨g,cap,cur,hv,hb',by rw [f.typed ht hg h1 h2];exact hg,rest⟩⟩
section
variable {w:World} {t:TB} {T:List Te} {S C:List (Value×Value)}
end
end Go.Proofs.YtfolanohokflkaaGreatDoor
namespace Go.Proofs.YtfolanohokflkaaGreatDoor
open Go.RowKit
open Tm (eps)
section
variable {w W:World} {t:TB} {T:List Te} {N S C:List (Value×Value)} {B:List Int} {G:List Gx} {V:List Value}
theorem PZ {R:List Te×Nat} {x:Nat} {y z:Tm} (hT:TI B R.1) (hL:R.1.length<=fU) (hx:Rp R.1 x y) (hz:Rp R.1 R.2 z):Op B R.1 (sG R x) (ax y z) (dO y):=
 Op.chain (fU+1) hT (by have:=hx.lt;omega) hx hz
theorem K9 {M:Nat}:∀ (xs:List Nat) (R:List Te×Nat) (z:Tm),TI B R.1->Rp R.1 R.2 z->R.1.length+xs.length*M<=fU->(∀ x∈xs,∃ y,Rp R.1 x y/\dO y<=M)->∃ z',Op B R.1 (xs.foldl sG R) z' (xs.length*M)
 | [],R,z,hT,hz,_,_=>⟨z,by simpa using Op.same hT hz⟩
 | x::xs,R,z,hT,hz,hL,h=>by
  obtain ⟨y,hy,hM⟩:=h x (List.mem_cons_self ..)
  rw [List.length_cons,Nat.add_mul,Nat.one_mul] at hL
  have o1:=PZ hT (by omega) hy hz
  have hl:=o1.len
  obtain ⟨z',o2⟩:=K9 (M:=M) xs (sG R x) (ax y z) o1.ti o1.rp (by omega) fun x' hx'=>by
   obtain ⟨y',h1,h2⟩:=h x' (List.mem_cons_of_mem _ hx')
   exact ⟨y',o1.up h1,h2⟩
  refine ⟨z',(o1.trans o2).mono ?_⟩
  rw [List.length_cons,Nat.add_mul,Nat.one_mul]
  omega
theorem ach {M:Nat} (hT:TI B T):∀ {ns:List Nat} {ys:List Tm},g_ T ns ys->T.length+ns.length*M<=fU->(∀ y∈ys,dO y<=M)->Op B T (zI T ns) (kI ys) (ns.length*M):=by
 intro ns ys h
 induction h with
 | nil=>intro _ _;exact (show Op B T (T,1) eps 0 from Op.same hT hT.r1).mono (Nat.zero_le _)
 | @cons n y l ts hn _ ih=>
  intro hL hM
  rw [List.length_cons,Nat.add_mul,Nat.one_mul] at hL
  have o1:=ih (by omega) fun y hy=>hM y (List.mem_cons_of_mem _ hy)
  have e:zI T (n::l)=sG (zI T l) n:=by unfold zI;rw [List.reverse_cons,List.foldl_append];rfl
  have hl:=o1.len
  have o2:=PZ o1.ti (by omega) (o1.up hn) o1.rp
  rw [e]
  refine (o1.trans o2).mono ?_
  have:=hM y (List.mem_cons_self ..)
  rw [List.length_cons,Nat.add_mul,Nat.one_mul]
  omega
theorem Fu {M:Nat} (hT:TI B T) {ns:List Nat} {ys:List Tm} (h:g_ T ns ys) (hL:T.length+ns.length*M<=fU) (hM:∀ y∈ys,dO y<=M):Kg T ns:=by
 refine ⟨fun pre hp=>?_,h.lt⟩
 have hle:pre.length*M<=ns.length*M:=Nat.mul_le_mul_right _ hp
 obtain ⟨z,o⟩:=K9 (M:=M) (pre.map fun x:Fin ns.length=>ns[x.val]) (T,1) eps hT hT.r1 (by rw [List.length_map];show T.length+_<=_;omega) fun x hx=>by
  obtain ⟨j,_,rfl⟩:=List.mem_map.1 hx
  obtain ⟨y,h1,h2⟩:=h.get (List.getElem?_eq_getElem j.isLt)
  exact ⟨y,h2,hM y (List.mem_iff_getElem?.2 ⟨_,h1⟩)⟩
 rw [List.length_map] at o
 have:=o.len
 exact ⟨⟨o.sub,o.rp.lt,o.ti.wf⟩,by show (_:List Te).length<=_;have h2:((pre.map fun x=>ns[x.val]).foldl sG (T,1)).1.length<=T.length+pre.length*M:=this;unfold RP;omega⟩
theorem WO {w0:World} {v:Value} {ns:List Nat} (h:aX w t T N S C) (ho:w.ownsRow w0.heap.size 3 1 v ns.length (ints (ay ns))):VG w (fun k=>k<w.heap.size/\¬ TF t k) v ns:=by
 have ho':=ho
 obtain ⟨hl,⟨hv,hz⟩ | ⟨g,cap,cur,hv,hb,hg,rest⟩⟩:=ho
 ·left
  refine ⟨hv,List.length_eq_zero_iff.1 ?_⟩
  first | exact hz | simpa [ints,ay] using hz
 ·right
  subst hv
  refine ⟨g,cap,rfl,⟨(Array.getElem?_eq_some_iff.1 hg).1,xg h ho'⟩,fun j hj=>?_⟩
  rw [ho'.cellAt j (by omega)]
  unfold ints ay
  rw [List.getElem?_map,List.getElem?_map,List.getElem?_eq_getElem hj];rfl
theorem NW {ok:Nat->Prop} {M:Nat} {a:Option Addr} {ln cap:Nat} {ns:List Nat} {ys:List Tm} {w0:World} (h:Hid (Sz B w t T S C)) (hr:g_ T ns ys) (hL:T.length+ns.length*M<=fU) (hM:∀ y∈ys,dO y<=M) (hz:ns.length<=100000) (ho:w.ownsRow w0.heap.size 3 1 (.slice a ln cap) ns.length (ints (ay ns))) :
  Calls Tryz.prog 80 #[.pointer (some ⟨t.tb,0,none⟩),.slice a ln cap] w (BO B G V ok (ns.length*M) (kI ys) w t T S):=by
 have o:=ach (aa h).ti hr hL hM
 exact (Kh (hide (aa h).tab) (hide (WO (aa h).tab ho)) (hide (Fu (aa h).ti hr hL hM)) (aa h).ti.r1.lt hz).mono fun e w' ht=>BO.of h o ht
end
section
variable {w W:World} {t:TB} {T:List Te} {N S C:List (Value×Value)} {B:List Int}
theorem ZQ {ok:Nat->Prop} {i:Nat} {s:Tm} (h:Hid (Sz B w t T S C)) (hi:Rp T i s) (hl:T.length+1<=fU) :
  Calls Tryz.prog 117 #[.pointer (some ⟨t.tb,0,none⟩),.int .i64 i] w (BO B [] [] ok 1 (gV s) w t T S):=by
 have ho:=Op.star (aa h).ti hi
 exact (Ii (hide (aa h).tab) hi.lt (by have:=ho.len;omega)).mono fun e w' ht=>BO.of h ho ht
theorem P5 {T:List Te} {K:List Value}:mD [] T K=0:=rfl
theorem Nx.len {ok:Nat->Prop} {g:Nat} {w':World} {t':TB} {T':List Te} {S':List (Value×Value)} (h:Nx [] [] ok g w t T S w' t' T' S'):T'.length<=T.length+g:=by
 have:=h.pay
 rw [P5,P5] at this
 omega
theorem P6 {n i:Nat} {a:Tm} (h:Rp T i a):g_ T (List.replicate n i) (List.replicate n a):=by
 induction n with
 | zero=>exact .nil
 | succ n ih=>rw [List.replicate_succ,List.replicate_succ];exact .cons h ih
theorem Dg {α:Type} (n:Nat) (a:α):List.replicate (n+1) a=List.replicate n a++[a]:=by rw [List.replicate_succ']
theorem P7 {M n m:Nat} {a b:Tm} (ha:dO a<=M) (hb:dO b<=M):∀ y∈List.replicate n a++List.replicate m b,dO y<=M:=fun y hy=>by
 rcases List.mem_append.1 hy with q | q
 ·rw [List.eq_of_mem_replicate q];exact ha
 ·rw [List.eq_of_mem_replicate q];exact hb
set_option maxRecDepth 100000 in
set_option maxHeartbeats 4000000 in
theorem K_ {ok:Nat->Prop} {i n M g:Nat} {a:Tm} (h:Hid (Sz B w t T S C)) (hi:Rp T i a) (hn:n<=1000) (h1:dO a<=M) (h2:dO (gV a)<=M) (hg:(n+1)*M+1<=g) (hl:T.length+g<=fU) :
  Calls Tryz.prog 81 #[.pointer (some ⟨t.tb,0,none⟩),.int .i64 i,.int .i64 (n:Int),.int .i64 (-1)] w (BO B [] [] ok g (nZ a n none) w t T S):=by
 have HRT:Hid (nZ a n none=kI (List.replicate n a++[gV a])):=JJ a n
 have HST:=hide (fun (wr:World) (hb:Below w.heap.size w wr)=>ZQ (ok:=ok) (Sz.below h hb) hi (by omega))
 have HRO:=hide (fun (w3:World) (t3:TB) (T3:List Te) (S3 C3:List (Value×Value)) (r:Nat) (ao:Option Addr) (cap:Nat) (h3:Hid (Sz B w3 t3 T3 S3 C3)) (hr3:Rp T3 r (gV a)) (hi3:Rp T3 i a) (hl3:T3.length<=T.length+1) (ho:w3.ownsRow w.heap.size 3 1 (.slice ao (n+1) cap) (n+1) (ints (ay (List.replicate n i++[r]))))=>NW (G:=[]) (V:=[]) (ok:=ok) (M:=M) (w0:=w) (a:=ao) (ln:=n+1) (cap:=cap) h3 (ns:=List.replicate n i++[r]) (ys:=List.replicate n a++[gV a]) (g_.app (P6 hi3) (.cons hr3 .nil)) (by rw [List.length_append,List.length_replicate];show T3.length+(n+1)*M<=fU;omega) (by
   have:=P7 (n:=n) (m:=1) h1 h2
   rwa [List.replicate_one] at this) (by rw [List.length_append,List.length_replicate];show n+1<=_;omega) (by rw [List.length_append,List.length_replicate];exact ho))
 have HUP:Hid (∀ {w':World} {t':TB} {T':List Te} {S':List (Value×Value)} {wr:World},Nx [] [] ok 1 wr t T S w' t' T' S'->Rp T' i a):=fun hn=>hn.rp hi
 have TS:Hid (∀ k,TF t k->k<w.heap.size):=fun k hk=>(aa h).tab.foot hk
 have Sd:=h
 rw [aa HRT]
 clear h hi h1 h2
 go_enter Tryz.func81,Tryz.ntmps81
 go_wp2_with fail
 go_loopw [9,11] (fun v k wr=>∃ (k':Nat) (ao:Option Addr) (cap:Nat),k'<=n/\k=.int .i64 (k':Int)/\v=.slice ao k' cap/\Hid (wr.ownsRow w.heap.size 3 1 (.slice ao k' cap) k' (ints (ay (List.replicate k' i))))/\Hid (Below w.heap.size w wr)) (fun _ k _=>n - (intOf k).toNat)
 case atStart=>exact ⟨0,none,0,Nat.zero_le _,rfl,rfl,World.ownsRow_nil _ _ _ _,Below.refl _ _⟩
 case round=>
  obtain ⟨k',ao,cap,hk',rfl,rfl,HO,HB⟩:=hrel
  have hws:w.heap.size<=wr.heap.size:=(aa HB).size
  by_cases hlt:k'<n
  ·have LY:(k':Int)<(n:Int):=by omega
   go_wp2_with (at_builtin;refine jK Tryz.underlying31 gP rfl (by decide) (by decide) w.heap.size w wr _ _ [.int .i64 (i:Int)] _ (.tmp 13) (.tmp 15) rfl rfl rfl wr.heap.size rfl rfl HO HB hws (by omega) rfl (by intro u hu;simp at hu;rw [hu];rfl) ?_;intro g5 cap5 w5 oM kz FM)
   go_roundw
   case rel=>
    refine ⟨k'+1,some ⟨g5,0,none⟩,cap5,by omega,by go_num,rfl,?_,kz⟩
    show World.ownsRow _ _ _ _ _ _ _
    rw [Dg,h_,show ints (ay (List.replicate k' i)++ay [i])=ints (ay (List.replicate k' i))++[.int .i64 (i:Int)] from by simp [ints,ay]]
    exact oM
   case measure=>simp [intOf];omega
  ·obtain rfl:k'=n:=by omega
   have eO:=hide (aa HST wr (aa HB))
   clear HST
   go_wp2_with (first
    | (go_at_call 117;refine (aa eO).mono ?_;clear eO;rintro e w2 ⟨r2,t2,T2,S2,C2,rfl,hr2,xL,iy⟩;have jh:=hide (Ak (aa (Sz.below Sd (aa HB))).tab (aa HO) (aa iy).fr);have HFF:Hid (a_ t t2 w w2):=(a_.below (aa HB)).trans (aa iy).fr;have hw2:w.heap.size<=w2.heap.size:=(aa HFF).size;have Wo:Hid (Below w.heap.size w2 w2):=Below.refl _ _;have HR2:=hide hr2;have hl2:T2.length<=T.length+1:=(aa iy).len;have HI2:=hide (aa HUP (aa iy));clear hr2)
    | (at_builtin;refine jK Tryz.underlying31 gP rfl (by decide) (by decide) w.heap.size w2 w2 _ _ [.int .i64 (r2:Int)] _ (.tmp 21) (.tmp 25) rfl rfl rfl w2.heap.size rfl rfl jh Wo hw2 (by omega) rfl (by intro u hu;simp at hu;rw [hu];rfl) ?_;intro g5 cap5 w5 oM kz FM;have HY5:Hid (Sz B w5 t2 T2 S2 C2):=NJ (aa xL) (aa HFF) (aa TS) (aa kz) (aa FM);have Mf:=hide (w_ (aa HFF) (aa kz));have Mg:Hid (w5.ownsRow w.heap.size 3 1 (.slice (some ⟨g5,0,none⟩) (k'+1) cap5) (k'+1) (ints (ay (List.replicate k' i++[r2])))):=(by show World.ownsRow _ _ _ _ _ _ _;rw [h_,show ints (ay (List.replicate k' i)++ay [r2])=ints (ay (List.replicate k' i))++[.int .i64 (r2:Int)] from by simp [ints,ay]];exact oM);have HRW:=hide (aa HRO w5 t2 T2 S2 C2 r2 _ cap5 HY5 (aa HR2) (aa HI2) hl2 (aa Mg));rw [(aa Mf).tb] at HRW;clear HRO)
    | (go_at_call 80;refine (aa HRW).mono ?_;clear HRW;rintro e w6 HH;have CS:=hide HH;obtain ⟨r6,t6,T6,S6,C6,rfl,-⟩:=HH))
   go_ret
   have hn2:=aa iy
   have h1:=BO.then (g:=1) ⟨hn2.sub,hn2.zJ,hn2.new,aa Mf,hn2.pay⟩ (aa CS)
   exact h1.less (by rw [List.length_append,List.length_replicate];show 1+(k'+1)*M<=g;omega)
set_option maxRecDepth 100000 in
set_option maxHeartbeats 4000000 in
theorem La {ok:Nat->Prop} {i n m M K g:Nat} {a:Tm} (hB:B.length<=480) (h:Hid (Sz B w t T S C)) (hi:Rp T i a) (hn:n<=m) (hm:m<=1000) (h1:dO a<=M) (h2:dO (pF a)<=M) (h3:(memT false a).length<=200000) (h4:(memT false (pF a)).length<=K) (hK:K<=200000) (hg:m*M+(m - n)*(K+1)+1<=g) (hl:T.length+g<=fU) :
  Calls Tryz.prog 81 #[.pointer (some ⟨t.tb,0,none⟩),.int .i64 i,.int .i64 (n:Int),.int .i64 (m:Int)] w (BO B [] [] ok g (nZ a n (some m)) w t T S):=by
 have HRT:Hid (nZ a n (some m)=kI (List.replicate n a++List.replicate (m - n) (pF a))):=JK a n m
 have HAN:=hide (fun (w3:World) (t3:TB) (T3:List Te) (S3 C3:List (Value×Value)) (q:Nat) (h3':Hid (Sz B w3 t3 T3 S3 C3)) (hi3:Rp T3 i a) (hq:q<m - n) (hl3:T3.length<=T.length+q*(K+1))=>PH (G:=[]) (V:=[]) (ok:=ok) (g0:=w3.heap.size) h3' hB (aa h3').ti.r1 hi3 (by simp [memT]) h3 (show (memT false (pF a)).length<=200000 by omega) (show T3.length+(memT false (pF a)).length+2<=fU by
  have:(q+1)*(K+1)<=(m - n)*(K+1):=Nat.mul_le_mul_right _ (by omega)
  rw [Nat.add_mul,Nat.one_mul] at this
  omega) rfl)
 rw [show ((1:Nat):Int)=1 from rfl] at HAN
 have HRO:=hide (fun (w3:World) (t3:TB) (T3:List Te) (S3 C3:List (Value×Value)) (rs:List Nat) (ao:Option Addr) (cap:Nat) (h3':Hid (Sz B w3 t3 T3 S3 C3)) (hr3:g_ T3 rs (List.replicate n a++List.replicate (m - n) (pF a))) (hl3:T3.length<=T.length+(m - n)*(K+1)) (hrl:rs.length=m) (ho:w3.ownsRow w.heap.size 3 1 (.slice ao m cap) m (ints (ay rs)))=>NW (G:=[]) (V:=[]) (ok:=ok) (M:=M) (w0:=w) (a:=ao) (ln:=m) (cap:=cap) h3' hr3 (by rw [hrl];omega) (P7 h1 h2) (by omega) (by rw [hrl];exact ho))
 have TS:Hid (∀ k,TF t k->k<w.heap.size):=fun k hk=>(aa h).tab.foot hk
 have Sd:=h
 have HI:=hide hi
 have HH4:=hide h4
 rw [aa HRT]
 clear h hi h1 h2 h3 h4
 have hmw:IntKind.i64.wrap ((m:Int) - (n:Int))=((m - n:Nat):Int):=by
  have:(m:Int) - (n:Int)=((m - n:Nat):Int):=by omega
  rw [this]
  simp [IntKind.wrap,IntKind.bits,IntKind.signed];omega
 have hm1:¬ (m:Int)=-1:=by omega
 have hm2:((m:Int)==-1)=false:=by simp
 go_enter Tryz.func81,Tryz.ntmps81
 go_wp2_with fail
 go_loopw [9,11] (fun v k wr=>∃ (k':Nat) (ao:Option Addr) (cap:Nat),k'<=n/\k=.int .i64 (k':Int)/\v=.slice ao k' cap/\Hid (wr.ownsRow w.heap.size 3 1 (.slice ao k' cap) k' (ints (ay (List.replicate k' i))))/\Hid (Below w.heap.size w wr)) (fun _ k _=>n - (intOf k).toNat)
 case atStart=>exact ⟨0,none,0,Nat.zero_le _,rfl,rfl,World.ownsRow_nil _ _ _ _,Below.refl _ _⟩
 case round=>
  obtain ⟨k',ao,cap,hk',rfl,rfl,HO,HB⟩:=hrel
  have hws:w.heap.size<=wr.heap.size:=(aa HB).size
  by_cases hlt:k'<n
  ·have LY:(k':Int)<(n:Int):=by omega
   go_wp2_with (at_builtin;refine jK Tryz.underlying31 gP rfl (by decide) (by decide) w.heap.size w wr _ _ [.int .i64 (i:Int)] _ (.tmp 13) (.tmp 15) rfl rfl rfl wr.heap.size rfl rfl HO HB hws (by omega) rfl (by intro u hu;simp at hu;rw [hu];rfl) ?_;intro g5 cap5 w5 oM kz FM)
   go_roundw
   case rel=>
    refine ⟨k'+1,some ⟨g5,0,none⟩,cap5,by omega,by go_num,rfl,?_,kz⟩
    show World.ownsRow _ _ _ _ _ _ _
    rw [Dg,h_,show ints (ay (List.replicate k' i)++ay [i])=ints (ay (List.replicate k' i))++[.int .i64 (i:Int)] from by simp [ints,ay]]
    exact oM
   case measure=>simp [intOf];omega
  ·obtain rfl:k'=n:=by omega
   go_wp2_with fail
   go_loopw [9,31] (fun v k wr2=>∃ (q:Nat) (ao:Option Addr) (cap:Nat) (rs:List Nat) (t1:TB) (T1:List Te) (S1 C1:List (Value×Value)),q<=m - k'/\k=.int .i64 (q:Int)/\v=.slice ao (k'+q) cap/\Hid (rs.length=k'+q)/\Hid (wr2.ownsRow w.heap.size 3 1 (.slice ao (k'+q) cap) (k'+q) (ints (ay rs)))/\Hid (g_ T1 rs (List.replicate k' a++List.replicate q (pF a)))/\Hid (Sz B wr2 t1 T1 S1 C1)/\Hid (Nx [] [] ok (q*(K+1)) w t T S wr2 t1 T1 S1)) (fun _ k _=>(m - k') - (intOf k).toNat)
   case atStart=>exact ⟨0,ao,cap,List.replicate k' i,t,T,S,C,Nat.zero_le _,rfl,rfl,by show _=_;simp,HO,by rw [List.replicate_zero,List.append_nil];exact P6 (aa HI),Sz.below Sd (aa HB),by rw [Nat.zero_mul];exact hide (Nx.world (a_.below (aa HB)))⟩
   case round=>
    rename_i wr2
    obtain ⟨q,ao,cap,rs,t1,T1,S1,C1,hq,rfl,rfl,HM,HO,HRS,HY,HN⟩:=hrel
    have hws:w.heap.size<=wr.heap.size:=(aa HN).fr.size
    by_cases hlq:q<m - k'
    ·have LY:(q:Int)<((m - k':Nat):Int):=by omega
     have HA1:=hide (aa HAN wr t1 T1 S1 C1 q HY ((aa HN).rp (aa HI)) hlq (aa HN).len)
     rw [(aa HN).fr.tb] at HA1
     go_wp2_with (first
      | (go_at_call 79;refine (aa HA1).mono ?_;clear HA1;rintro e w2 ⟨r2,t2,T2,S2,C2,rfl,hr2,xL,iy⟩;have jh:=hide (Ak (aa (Sz.alloc HY _)).tab ((aa HO).alloc _) (aa iy).fr);have lI:=hide ((aa HN).trans ((Nx.world (a_.below ((Below.refl _ _).alloc (Nat.le_refl _) _))).trans (aa iy)));have hw2:w.heap.size<=w2.heap.size:=(aa lI).fr.size;have Wo:Hid (Below w.heap.size w2 w2):=Below.refl _ _;have HR2:=hide hr2;clear hr2)
      | (at_builtin;refine jK Tryz.underlying31 gP rfl (by decide) (by decide) w.heap.size w2 w2 _ _ [.int .i64 (r2:Int)] _ (.tmp 33) (.tmp 38) rfl rfl rfl w2.heap.size rfl rfl jh Wo hw2 (by omega) rfl (by intro u hu;simp at hu;rw [hu];rfl) ?_;intro g5 cap5 w5 oM kz FM;have HY5:Hid (Sz B w5 t2 T2 S2 C2):=NJ (aa xL) (aa lI).fr (aa TS) (aa kz) (aa FM)))
     go_roundw
     case rel=>
      refine ⟨q+1,some ⟨g5,0,none⟩,cap5,rs++[r2],t2,T2,S2,C2,by omega,by go_num,rfl,by show _=_;rw [List.length_append,aa HM];rfl,?_,?_,HY5,?_⟩
      ·show World.ownsRow _ _ _ _ _ _ _
       rw [h_,show ints (ay rs++ay [r2])=ints (ay rs)++[.int .i64 (r2:Int)] from by simp [ints,ay]]
       exact oM
      ·show g_ _ _ _
       rw [Dg,<-List.append_assoc]
       refine g_.app ?_ (.cons (aa HR2) .nil)
       obtain ⟨X,eX⟩:=(aa iy).sub
       rw [eX]
       exact (aa HRS).mono
      ·have h3:=aa lI
       exact ⟨h3.sub,h3.zJ,h3.new,w_ h3.fr (aa kz),by have:=h3.pay;have h4:(memT false (aj false [eps,a])).length<=K:=aa HH4;rw [Nat.add_mul,Nat.one_mul];omega⟩
     case measure=>simp [intOf];omega
    ·obtain rfl:q=m - k':=by omega
     have hkm:k'+(m - k')=m:=by omega
     rw [hkm] at HO HM
     rw [hkm]
     have HRW:=hide (aa HRO wr t1 T1 S1 C1 rs ao cap HY (aa HRS) (aa HN).len (aa HM) (aa HO))
     rw [(aa HN).fr.tb] at HRW
     clear HRO HAN
     go_wp2_with (go_at_call 80;refine (aa HRW).mono ?_;clear HRW;rintro e w6 HH;have CS:=hide HH;obtain ⟨r6,t6,T6,S6,C6,rfl,-⟩:=HH)
     go_ret
     exact (BO.then (aa HN) (aa CS)).less (by rw [aa HM];omega)
end
end Go.Proofs.YtfolanohokflkaaGreatDoor
namespace Go.Proofs.YtfolanohokflkaaGreatDoor
open Go.RowKit
section
variable {W:World} {F:Nat->Prop}
theorem Lb {X X':World} {t t':TB} {T:List Te} {N S C:List (Value×Value)} {k:Nat} {m:Nd} (h:Hid (au X k m)) (ht:Hid (aX X t T N S C)) (f:Hid (a_ t t' X X')):Hid (au X' k m):=
 ((aa f).typed (aa ht) (aa h) (by decide) (by decide)).trans (aa h)
end
structure L8 (w w':World) (v:Value):Prop where
 os:w'.os=w.os
 tape:w'.tape=w.tape
 output:w'.output=w.output
 size:w.heap.size<=w'.heap.size
 block:∀ k,k<w.heap.size->v.ownBlock≠some k->w'.heap[k]? = w.heap[k]?
theorem xy {ops:Array Oper} {rest:List Oper} {o:Oper} {a:Act} {Q:Exit->Act->World->Prop} (B:Nat) (wr:World) (zs:List Int) (v:Value) (z:Int) (s x:Operand) (hg:o.guard=none)
  (hop:o.op=.call { callee:=.builtin .append,args:=#[s,x],argTypes:=#[31,31] }) (hs:a.eval s=v) (hx:a.eval x=.slice (some ⟨wr.heap.size,0,none⟩) 1 1)
  (ho:Hid (wr.ownsRow B 3 1 v zs.length (ints zs))) (hB:B<=wr.heap.size) (hl:zs.length<=2000000)
  (K:∀ g cap w',Hid (w'.ownsRow B 3 1 (.slice (some ⟨g,0,none⟩) (zs++[z]).length cap) (zs++[z]).length (ints (zs++[z])))->Hid (L8 wr w' v)->wpList Tryz.prog ops Q rest (a.put o.dst (.slice (some ⟨g,0,none⟩) (zs++[z]).length cap)) w') :
  wpList Tryz.prog ops Q (o::rest) a (wr.alloc (.cells #[.int .i64 z] 3)):=by
 obtain ⟨i0,hi,hz0,hz1,hz2⟩:=info_parts gP
 refine wpList_append_own _ hg s x 31 hop B 3 i0 (.int .i64 0) 1 8 Tryz.underlying31 hi hz0 hz1 hz2 rfl (by decide) _ _ _ hs ((aa ho).alloc _) ⟨wr.heap.size,0,none⟩ 1 1 [.int .i64 z] hx rfl (bz wr [.int .i64 z] _) (UN _ rfl) (by unfold maxLen;omega) (by omega) (by simp;omega) ?_
 intro v' w' h1 h2 _
 have h1':w'.ownsRow B 3 1 v' (zs++[z]).length (ints (zs++[z])):=by rw [EP,List.length_append];exact h1
 obtain ⟨ao,cap,rfl,hv⟩:=aN h1'
 obtain ⟨g,rfl,-⟩:=hv (by simp)
 refine K g cap w' h1' ⟨h2.os,h2.tape,h2.output,Nat.le_trans (by simp) h2.size,fun k hk hne=>(h2.block k (by simp;omega) (fun e=>hne e.symm)).trans (Below.heap_alloc wr _ k hk)⟩
theorem L8.typed {w w':World} {v:Value} {B n:Nat} {xs:List Value} (h:L8 w w' v) (ho:w.ownsRow B 3 1 v n xs) {k:Nat} {cur:Array Value} {ty:TypeId} {z:Nat×Nat} (hk:w.heap[k]? = some (.cells cur ty z)) (hty:ty≠3):w'.heap[k]? = w.heap[k]? := by
 refine h.block k (Array.getElem?_eq_some_iff.1 hk).1 (fun e=>?_)
 obtain ⟨hl,hx | ⟨g,cap,cur',hv,hb',hg,rest⟩⟩:=ho
 ·rw [hx.1] at e;cases e
 ·rw [hv] at e
  have eg:g=k:=by injection e
  subst eg
  rw [hg] at hk;injection hk with hk;injection hk with _ e;exact hty e.symm
theorem L8.tab {w w':World} {v:Value} {B n:Nat} {xs:List Value} {t:TB} {T:List Te} {N S C:List (Value×Value)} (h:L8 w w' v) (ho:w.ownsRow B 3 1 v n xs) (ht:aX w t T N S C):aX w' t T N S C:=by
 refine ht.move (fun k hk hl=>h.block k hl (fun e=>?_))
 obtain ⟨_,hx | ⟨g,cap,cur',hv,hb',hg,rest⟩⟩:=ho
 ·rw [hx.1] at e;cases e
 ·rw [hv] at e
  have eg:g=k:=by injection e
  subst eg
  exact TF.typed ht hg (by decide) (by decide) hk
theorem L8.fr {w w' X:World} {v:Value} {n:Nat} {xs:List Value} {t t':TB} (h:L8 w w' v) (ho:w.ownsRow X.heap.size 3 1 v n xs) (f:a_ t t' X w):a_ t t' X w':=
 ⟨h.os.trans f.os,h.tape.trans f.tape,h.output.trans f.output,Nat.le_trans f.size h.size,fun k hk hf=>(h.block k (Nat.lt_of_lt_of_le hk f.size) (fun e=>by have:=(ho.lt k e).1;omega)).trans (f.block k hk hf),f.tb,f.nb,f.sb,f.cb,f.row⟩
theorem L8.stay {W w w':World} {v:Value} {B n:Nat} {xs:List Value} {F:Nat->Prop} (h:L8 w w' v) (ho:w.ownsRow B 3 1 v n xs) (hs:ma W w F):ma W w' F:=fun k hk hc=>by
 obtain ⟨cur,hc'⟩:=hc
 have e:=hs k hk ⟨cur,hc'⟩
 exact (h.typed ho (e.trans hc') (by decide)).trans e
section
variable {W:World} {F:Nat->Prop}
end
end Go.Proofs.YtfolanohokflkaaGreatDoor
namespace Go.Proofs.YtfolanohokflkaaGreatDoor
open Go.RowKit
open Tm (eps)
def L9 (B:List Int) (W:World) (F:Nat->Prop) (m:Nd) (p:Pt) (g:Nat):Prop:=∀ (X:World) (t:TB) (T:List Te) (S C:List (Value×Value)) (ok:Nat->Prop),Hid (ma W X F)->Hid (Sz B X t T S C)->T.length+g+100000<=fU->Calls Tryz.prog 52 #[.pointer (some ⟨t.tb,0,none⟩),gm m] X (BO B [] [] ok g (cZ p) X t T S)
theorem adV {B:List Int} {w w':World} {v:Value} {Bb n:Nat} {xs:List Value} {t:TB} {T:List Te} {S C:List (Value×Value)} (h:L8 w w' v) (ho:w.ownsRow Bb 3 1 v n xs) (hs:Sz B w t T S C):Sz B w' t T S C:=by
 refine ⟨h.tab ho hs.tab,hs.ti,⟨hs.cv.1,fun p hp=>?_⟩,hs.sv⟩
 obtain ⟨n,g,cap,l,y,e,h1,h2,h2',h3⟩:=hs.cv.2 p hp
 refine ⟨n,g,cap,l,y,e,h1,h2,h2',h3.move ?_⟩
 obtain ⟨_,⟨hv,_⟩ | ⟨g',cap',cur,hv,_,hg,_⟩⟩:=h3.own
 ·cases hv
 ·injection hv with e1
  injection e1 with e1
  injection e1 with e1
  subst e1
  exact h.typed ho hg (by decide)
structure SK (B:List Int) (X:World) (t:TB) (T:List Te) (S:List (Value×Value)) (c:Pt->Nat) (ok:Nat->Prop) (ts:List Pt) (m:Nd) (W:World) (F:Nat->Prop) (v:Value) (wr:World) (ns:List Nat) (T':List Te) (t':TB) (S' C':List (Value×Value)):Prop where
 own:wr.ownsRow X.heap.size 3 1 v (ay ns).length (ints (ay ns))
 sz:Sz B wr t' T' S' C'
 rp:g_ T' ns ((ts.take ns.length).map cZ)
 nx:Nx [] [] ok (bu ((ts.take ns.length).map c)) X t T S wr t' T' S'
 stay:ma W wr F
 nd:au wr X.heap.size m
section
variable {B:List Int} {X:World} {t:TB} {T:List Te} {S:List (Value×Value)} {c:Pt->Nat} {ok:Nat->Prop} {ts:List Pt} {m:Nd} {W:World} {F:Nat->Prop} {v:Value} {wr:World} {ns:List Nat} {T':List Te} {t':TB} {S' C':List (Value×Value)}
theorem WQ (l:List Nat) (a:Nat):bu (l++[a])=bu l+a:=by rw [kS];simp [bu]
theorem SK.next (h:SK B X t T S c ok ts m W F v wr ns T' t' S' C') {o:Obj} {n:Nat} {p:Pt} {T2:List Te} {t2:TB} {S2 C2:List (Value×Value)} {w2 w3:World} {g cap:Nat} (hc:ts[ns.length]? = some p) (hr:Rp T2 n (cZ p)) (hy:Sz B w2 t2 T2 S2 C2) (hn:Nx [] [] ok (c p) (wr.alloc o) t' T' S' w2 t2 T2 S2) (hO3:w3.ownsRow X.heap.size 3 1 (.slice (some ⟨g,0,none⟩) (ay ns++[(n:Int)]).length cap) (ay ns++[(n:Int)]).length (ints (ay ns++[(n:Int)]))) (hG:L8 w2 w3 v) :
  SK B X t T S c ok ts m W F (.slice (some ⟨g,0,none⟩) (ay (ns++[n])).length cap) w3 (ns++[n]) T2 t2 S2 C2:=by
 have hT1:=aa (aX.alloc (hide h.sz.tab) o)
 have ho1:(wr.alloc o).ownsRow X.heap.size 3 1 v (ay ns).length (ints (ay ns)):=h.own.alloc _
 have ho2:=mW ho1 hT1 hn.fr (by decide) (by decide)
 have en:ay (ns++[n])=ay ns++[(n:Int)]:=by simp [ay]
 have hst:ma W w2 F:=(h.stay.below ((Below.refl _ _).alloc (Nat.le_refl _) _)).tab hT1 hn.fr
 have hn2:=aa (Lb (hide (au.move h.nd (Below.heap_alloc wr o _ (au.lt h.nd)))) (hide hT1) (hide hn.fr))
 obtain ⟨hk1,hk2⟩:=List.getElem?_eq_some_iff.1 hc
 have etk:ts.take (ns++[n]).length=ts.take ns.length++[p]:=by
  rw [List.length_append]
  show ts.take (ns.length+1)=_
  rw [List.take_succ_eq_append_getElem hk1,hk2]
 have hx:=h.nx.trans ((Nx.world (ok:=ok) (a_.below ((Below.refl wr.heap.size wr).alloc (Nat.le_refl _) o))).trans hn)
 refine ⟨by rw [en];exact hO3,adV hG ho2 hy,?_,?_,hG.stay ho2 hst,(hG.typed ho2 hn2 (by decide)).trans hn2⟩
 ·rw [etk,List.map_append]
  obtain ⟨Z,e'⟩:=hn.sub
  refine g_.app ?_ (.cons hr .nil)
  rw [e']
  exact h.rp.mono
 ·rw [etk,List.map_append]
  show Nx _ _ _ (bu (_++[c p])) _ _ _ _ _ _ _ _
  rw [WQ]
  exact ⟨hx.sub,hx.zJ,hx.new,hG.fr ho2 hx.fr,by have:=hx.pay;omega⟩
end
section
variable {B:List Int} {W:World} {F:Nat->Prop}
theorem mX (c:Pt->Nat):∀ (ts:List Pt) (k:Nat) (p:Pt),ts[k]? = some p->bu ((ts.take k).map c)+c p<=bu (ts.map c)
 | [],k,p,h=>by simp at h
 | a::l,0,p,h=>by simp at h;subst h;simp [bu]
 | a::l,k+1,p,h=>by simp only [List.take_succ_cons,List.map_cons,bu];have:=mX c l k p (by simpa using h);omega
def NY (B:List Int) (f:Nat) (p:Pt) (ts:List Pt) (g0:Nat):Prop:=∀ (w3 X:World) (t3:TB) (T3:List Te) (S3 C3:List (Value×Value)) (ns:List Nat) (ao:Option Addr) (cap:Nat) (ok:Nat->Prop),Hid (Sz B w3 t3 T3 S3 C3)->g_ T3 ns (ts.map cZ)->ns.length=ts.length->T3.length+g0+100000<=fU->w3.ownsRow X.heap.size 3 1 (.slice ao ts.length cap) ts.length (ints (ay ns))->Calls Tryz.prog f #[.pointer (some ⟨t3.tb,0,none⟩),.slice ao ts.length cap] w3 (BO B [] [] ok g0 (cZ p) w3 t3 T3 S3)
set_option maxRecDepth 100000 in
set_option maxHeartbeats 4000000 in
theorem WR {m:Nd} {aM:List Nd} {p:Pt} {ts:List Pt} {c:Pt->Nat} {g0:Nat} (h1:m.sh=1) (h2:jo W F m.pv aM) (hlen:aM.length=ts.length) (hz:ts.length<=1000) (HI:∀ (i:Nat) (h:i<aM.length) (h':i<ts.length),L9 B W F aM[i] ts[i] (c ts[i])) (HF:NY B 79 p ts g0):L9 B W F m p (bu (ts.map c)+g0):=by
 intro X t T S C ok hst h hl
 have hp:=fT h2 (aa hst)
 obtain ⟨ao,cap,epv,hv⟩:=aN hp
 obtain ⟨e1,e2,e3⟩:m.pa=ao/\m.pn=aM.length/\m.pc=cap:=by injection epv with e1 e2 e3;exact ⟨e1,e2,e3⟩
 have ZR:Hid (∀ (wr:World) (k:Nat) (hk:k<aM.length),ma W wr F->∃ g,ao=some ⟨g,0,none⟩/\nV wr g (k*7) aM[k]):=fun wr k hk hs=>by
  have hp':=fT h2 hs
  obtain ⟨ao',cap',e',hv'⟩:=aN hp'
  obtain ⟨g',e4,_,_,hgc,_⟩:=hv' (by omega)
  have:ao=ao':=by rw [epv] at e';injection e'
  exact ⟨g',this.trans e4,pW hgc k hk⟩
 have HN:=hide (au.new X m)
 have HB:Hid (Below X.heap.size X (X.alloc (aB m))):=(Below.refl _ _).alloc (Nat.le_refl _) _
 have HI0:Hid (SK B X t T S c ok ts m W F (.slice none 0 0) (X.alloc (aB m)) [] T t S C):=⟨World.ownsRow_nil _ _ _ _,aa (Sz.alloc h _),.nil,Nx.world (a_.below (aa HB)),(aa hst).below (aa HB),aa HN⟩
 have hmv:gm m=.agg #[.int .i64 1,.slice ao aM.length cap,.string m.ss,.int .i64 m.le,.int .i64 m.mo,.int .i64 m.fa,.int .i64 m.sz]:=by unfold gm;rw [h1,e1,e2,e3]
 have P8:aB m=.cells #[.int .i64 1,.slice ao aM.length cap,.string m.ss,.int .i64 m.le,.int .i64 m.mo,.int .i64 m.fa,.int .i64 m.sz] 65:=by unfold aB;rw [h1,e1,e2,e3]
 rw [hmv]
 rw [P8] at HI0
 have zF:Hid (∀ wr,au wr X.heap.size m->wr.cell? ⟨X.heap.size,0,none⟩=some (.int .i64 1)):=fun wr hn=>by obtain ⟨a0,a1,a2,a3,a4,a5,a6⟩:=au.cells hn;rw [h1] at a0;exact a0
 have P9:=hide hlen
 have hnz:aM.length<=1000:=by omega
 have hh0:True:=trivial
 clear hmv P8 HN HB hst h epv hp hv h2 e1 e2 e3 h1 hlen
 generalize m.ss=xs at *
 generalize m.le=xl at *
 generalize m.mo=xm at *
 generalize m.fa=xa at *
 generalize m.sz=xz at *
 obtain ⟨wb,hwb⟩:∃ wb,X.alloc (.cells #[.int .i64 1,.slice ao aM.length cap,.string xs,.int .i64 xl,.int .i64 xm,.int .i64 xa,.int .i64 xz] 65)=wb:=⟨_,rfl⟩
 have c1:wb.cell? ⟨X.heap.size,1,none⟩=some (.slice ao aM.length cap):=by rw [<-hwb];exact az rfl 1 rfl
 rw [hwb] at HI0
 go_enter Tryz.func52,Tryz.ntmps52
 go_wp2_with fail
 go_loopw [5,11] (fun v i wr=>∃ (ns:List Nat) (T':List Te) (t':TB) (S' C':List (Value×Value)),ns.length<=aM.length/\i=.int .i64 (ns.length:Int)/\(∃ a1 c1,v=.slice a1 ns.length c1)/\Hid (SK B X t T S c ok ts m W F v wr ns T' t' S' C')) (fun _ i _=>aM.length - (intOf i).toNat)
 case atStart=>exact ⟨[],T,t,S,C,Nat.zero_le _,rfl,⟨none,0,rfl⟩,HI0⟩
 case round=>
  obtain ⟨ns,T',t',S',C',hle,rfl,⟨a1,c1',rfl⟩,HR⟩:=hrel
  have hr:=aa HR
  by_cases hlt:ns.length<aM.length
  ·obtain ⟨g,rfl,d0,d1,d2,d3,d4,d5,d6⟩:=aa ZR wr ns.length hlt hr.stay
   have hlc:ns.length<ts.length:=by have:=aa P9;omega
   have hcg:ts[ns.length]? = some ts[ns.length]:=List.getElem?_eq_getElem hlc
   have P_:=HI ns.length hlt hlc
   have hs1:=mX c ts ns.length _ hcg
   have hs2:=hr.nx.len
   generalize ts[ns.length]=pp at *
   have p_:=hide (P_ (wr.alloc (aB aM[ns.length])) t' T' S' C' ok (hide (hr.stay.below ((Below.refl _ _).alloc (Nat.le_refl _) _))) (Sz.alloc (hide hr.sz) _) (by omega))
   rw [hr.nx.fr.tb] at p_
   have CO:=hide (fun (n:Nat) (T2:List Te) (t2:TB) (S2 C2:List (Value×Value)) (w2 w3:World) (g3 gp:Nat) (x1:Rp T2 n (cZ pp)) (x2:Sz B w2 t2 T2 S2 C2) (x3:Nx [] [] ok (c pp) (wr.alloc (aB aM[ns.length])) t' T' S' w2 t2 T2 S2) (x4:w3.ownsRow X.heap.size 3 1 (.slice (some ⟨g3,0,none⟩) (ay ns++[(n:Int)]).length gp) (ay ns++[(n:Int)]).length (ints (ay ns++[(n:Int)]))) (x5:L8 w2 w3 (.slice a1 ns.length c1'))=>hr.next (o:=aB aM[ns.length]) hcg x1 x2 x3 x4 x5)
   have HOW:=hide (fun (w2:World) (t2:TB) (x3:a_ t' t2 (wr.alloc (aB aM[ns.length])) w2)=>mW (hr.own.alloc (aB aM[ns.length])) (aa (aX.alloc (hide hr.sz.tab) _)) x3 (by decide) (by decide))
   have ZT:X.heap.size<=wr.heap.size:=hr.nx.fr.size
   have hI:(ns.length:Int)<(aM.length:Int):=by omega
   have hI0:(0:Int)<=(ns.length:Int):=by omega
   generalize aM[ns.length]=m1 at *
   obtain ⟨Qa,Qb,Qc,Qd,Qe,Qf,Qg,fa1,Qh⟩:=m1
   dsimp only [gm,aB] at p_ CO HOW
   dsimp only at d0 d1 d2 d3 d4 d5 d6
   obtain ⟨w1,hw1⟩:∃ w1,wr.alloc (.cells #[.int .i64 Qa,.slice Qb Qc Qd,.string Qe,.int .i64 Qf,.int .i64 Qg,.int .i64 fa1,.int .i64 Qh] 65)=w1:=⟨_,rfl⟩
   have b0:w1.cell? ⟨wr.heap.size,0,none⟩=some (.int .i64 Qa):=by rw [<-hw1];exact az rfl 0 rfl
   have b1:w1.cell? ⟨wr.heap.size,1,none⟩=some (.slice Qb Qc Qd):=by rw [<-hw1];exact az rfl 1 rfl
   have b2:w1.cell? ⟨wr.heap.size,2,none⟩=some (.string Qe):=by rw [<-hw1];exact az rfl 2 rfl
   have b3:w1.cell? ⟨wr.heap.size,3,none⟩=some (.int .i64 Qf):=by rw [<-hw1];exact az rfl 3 rfl
   have b4:w1.cell? ⟨wr.heap.size,4,none⟩=some (.int .i64 Qg):=by rw [<-hw1];exact az rfl 4 rfl
   have b5:w1.cell? ⟨wr.heap.size,5,none⟩=some (.int .i64 fa1):=by rw [<-hw1];exact az rfl 5 rfl
   have b6:w1.cell? ⟨wr.heap.size,6,none⟩=some (.int .i64 Qh):=by rw [<-hw1];exact az rfl 6 rfl
   have hs1':wr.heap.size<=w1.heap.size:=by rw [<-hw1];simp
   rw [hw1] at p_ CO HOW
   clear hr P_ hcg HR HI0 c1 hwb HI hs1 hs2
   go_wp2_with (first
    | (go_at_call 52;refine (aa p_).mono ?_;clear p_;rintro e w2 ⟨n,t2,T2,S2,C2,rfl,HR2,xL,iy⟩;have jh:=hide (aa HOW w2 t2 (aa iy).fr);have hs2:X.heap.size<=w2.heap.size:=Nat.le_trans (Nat.le_trans ZT hs1') (aa iy).fr.size)
    | (at_builtin;refine xy X.heap.size w2 (ay ns) (.slice a1 ns.length c1') (n:Int) (.tmp 15) (.tmp 19) rfl rfl rfl rfl jh hs2 (by rw [aO];omega) ?_;intro g3 gp w3 qg ZU))
   go_roundw
   case rel=>
    have HX:=hide (aa CO n T2 t2 S2 C2 w2 w3 g3 gp HR2 (aa xL) (aa iy) (aa qg) (aa ZU))
    have el:(ay (ns++[n])).length=ns.length+1:=by rw [aO,List.length_append];rfl
    rw [el] at HX
    have hle':(ns++[n]).length<=aM.length:=by rw [List.length_append];exact hlt
    have Qi:(ns++[n]).length=ns.length+1:=by simp
    exact ⟨ns++[n],T2,t2,S2,C2,hle',by rw [Qi];rfl,⟨some ⟨g3,0,none⟩,gp,by rw [Qi,aO]⟩,by rw [aO];exact HX⟩
   case measure=>simp [intOf];omega
  ·have en:ns.length=aM.length:=by omega
   have enc:ns.length=ts.length:=by have:=aa P9;omega
   have qN:=hr.rp
   have hnx:=hr.nx
   rw [enc,List.take_length] at qN hnx
   have hln:=hnx.len
   have hown:=hr.own
   rw [aO] at hown
   have l_:=hide (HF wr X t' T' S' C' ns a1 c1' ok (hide hr.sz) qN enc (by omega) (by rw [enc] at hown;exact hown))
   rw [hnx.fr.tb] at l_
   have c0:=aa zF wr hr.nd
   have LW:=hide hnx
   have hI:¬ (ns.length:Int)<(aM.length:Int):=by omega
   clear hr HR HI0 c1 hwb HI qN hnx hown HF
   rw [<-enc] at l_
   rw [en] at l_ hI ⊢
   clear en enc
   go_wp2_with (go_at_call 79;refine (aa l_).mono ?_;clear l_;rintro e w4 HH;have CS:=hide HH;obtain ⟨r4,t4,T4,S4,C4,rfl,-⟩:=HH)
   go_ret
   exact BO.then (aa LW) (aa CS)
set_option maxRecDepth 100000 in
set_option maxHeartbeats 4000000 in
theorem WS {m:Nd} {aM:List Nd} {p:Pt} {ts:List Pt} {c:Pt->Nat} {g0:Nat} (h1:m.sh=2) (h2:jo W F m.pv aM) (hlen:aM.length=ts.length) (hz:ts.length<=1000) (HI:∀ (i:Nat) (h:i<aM.length) (h':i<ts.length),L9 B W F aM[i] ts[i] (c ts[i])) (HF:NY B 77 p ts g0):L9 B W F m p (bu (ts.map c)+g0):=by
 intro X t T S C ok hst h hl
 have hp:=fT h2 (aa hst)
 obtain ⟨ao,cap,epv,hv⟩:=aN hp
 obtain ⟨e1,e2,e3⟩:m.pa=ao/\m.pn=aM.length/\m.pc=cap:=by injection epv with e1 e2 e3;exact ⟨e1,e2,e3⟩
 have ZR:Hid (∀ (wr:World) (k:Nat) (hk:k<aM.length),ma W wr F->∃ g,ao=some ⟨g,0,none⟩/\nV wr g (k*7) aM[k]):=fun wr k hk hs=>by
  have hp':=fT h2 hs
  obtain ⟨ao',cap',e',hv'⟩:=aN hp'
  obtain ⟨g',e4,_,_,hgc,_⟩:=hv' (by omega)
  have:ao=ao':=by rw [epv] at e';injection e'
  exact ⟨g',this.trans e4,pW hgc k hk⟩
 have HN:=hide (au.new X m)
 have HB:Hid (Below X.heap.size X (X.alloc (aB m))):=(Below.refl _ _).alloc (Nat.le_refl _) _
 have HI0:Hid (SK B X t T S c ok ts m W F (.slice none 0 0) (X.alloc (aB m)) [] T t S C):=⟨World.ownsRow_nil _ _ _ _,aa (Sz.alloc h _),.nil,Nx.world (a_.below (aa HB)),(aa hst).below (aa HB),aa HN⟩
 have hmv:gm m=.agg #[.int .i64 2,.slice ao aM.length cap,.string m.ss,.int .i64 m.le,.int .i64 m.mo,.int .i64 m.fa,.int .i64 m.sz]:=by unfold gm;rw [h1,e1,e2,e3]
 have P8:aB m=.cells #[.int .i64 2,.slice ao aM.length cap,.string m.ss,.int .i64 m.le,.int .i64 m.mo,.int .i64 m.fa,.int .i64 m.sz] 65:=by unfold aB;rw [h1,e1,e2,e3]
 rw [hmv]
 rw [P8] at HI0
 have zF:Hid (∀ wr,au wr X.heap.size m->wr.cell? ⟨X.heap.size,0,none⟩=some (.int .i64 2)):=fun wr hn=>by obtain ⟨a0,a1,a2,a3,a4,a5,a6⟩:=au.cells hn;rw [h1] at a0;exact a0
 have P9:=hide hlen
 have hnz:aM.length<=1000:=by omega
 have hh0:True:=trivial
 clear hmv P8 HN HB hst h epv hp hv h2 e1 e2 e3 h1 hlen
 generalize m.ss=xs at *
 generalize m.le=xl at *
 generalize m.mo=xm at *
 generalize m.fa=xa at *
 generalize m.sz=xz at *
 obtain ⟨wb,hwb⟩:∃ wb,X.alloc (.cells #[.int .i64 2,.slice ao aM.length cap,.string xs,.int .i64 xl,.int .i64 xm,.int .i64 xa,.int .i64 xz] 65)=wb:=⟨_,rfl⟩
 have c1:wb.cell? ⟨X.heap.size,1,none⟩=some (.slice ao aM.length cap):=by rw [<-hwb];exact az rfl 1 rfl
 rw [hwb] at HI0
 go_enter Tryz.func52,Tryz.ntmps52
 go_wp2_with fail
 go_loopw [5,11] (fun v i wr=>∃ (ns:List Nat) (T':List Te) (t':TB) (S' C':List (Value×Value)),ns.length<=aM.length/\i=.int .i64 (ns.length:Int)/\(∃ a1 c1,v=.slice a1 ns.length c1)/\Hid (SK B X t T S c ok ts m W F v wr ns T' t' S' C')) (fun _ i _=>aM.length - (intOf i).toNat)
 case atStart=>exact ⟨[],T,t,S,C,Nat.zero_le _,rfl,⟨none,0,rfl⟩,HI0⟩
 case round=>
  obtain ⟨ns,T',t',S',C',hle,rfl,⟨a1,c1',rfl⟩,HR⟩:=hrel
  have hr:=aa HR
  by_cases hlt:ns.length<aM.length
  ·obtain ⟨g,rfl,d0,d1,d2,d3,d4,d5,d6⟩:=aa ZR wr ns.length hlt hr.stay
   have hlc:ns.length<ts.length:=by have:=aa P9;omega
   have hcg:ts[ns.length]? = some ts[ns.length]:=List.getElem?_eq_getElem hlc
   have P_:=HI ns.length hlt hlc
   have hs1:=mX c ts ns.length _ hcg
   have hs2:=hr.nx.len
   generalize ts[ns.length]=pp at *
   have p_:=hide (P_ (wr.alloc (aB aM[ns.length])) t' T' S' C' ok (hide (hr.stay.below ((Below.refl _ _).alloc (Nat.le_refl _) _))) (Sz.alloc (hide hr.sz) _) (by omega))
   rw [hr.nx.fr.tb] at p_
   have CO:=hide (fun (n:Nat) (T2:List Te) (t2:TB) (S2 C2:List (Value×Value)) (w2 w3:World) (g3 gp:Nat) (x1:Rp T2 n (cZ pp)) (x2:Sz B w2 t2 T2 S2 C2) (x3:Nx [] [] ok (c pp) (wr.alloc (aB aM[ns.length])) t' T' S' w2 t2 T2 S2) (x4:w3.ownsRow X.heap.size 3 1 (.slice (some ⟨g3,0,none⟩) (ay ns++[(n:Int)]).length gp) (ay ns++[(n:Int)]).length (ints (ay ns++[(n:Int)]))) (x5:L8 w2 w3 (.slice a1 ns.length c1'))=>hr.next (o:=aB aM[ns.length]) hcg x1 x2 x3 x4 x5)
   have HOW:=hide (fun (w2:World) (t2:TB) (x3:a_ t' t2 (wr.alloc (aB aM[ns.length])) w2)=>mW (hr.own.alloc (aB aM[ns.length])) (aa (aX.alloc (hide hr.sz.tab) _)) x3 (by decide) (by decide))
   have ZT:X.heap.size<=wr.heap.size:=hr.nx.fr.size
   have hI:(ns.length:Int)<(aM.length:Int):=by omega
   have hI0:(0:Int)<=(ns.length:Int):=by omega
   generalize aM[ns.length]=m1 at *
   obtain ⟨Qa,Qb,Qc,Qd,Qe,Qf,Qg,fa1,Qh⟩:=m1
   dsimp only [gm,aB] at p_ CO HOW
   dsimp only at d0 d1 d2 d3 d4 d5 d6
   obtain ⟨w1,hw1⟩:∃ w1,wr.alloc (.cells #[.int .i64 Qa,.slice Qb Qc Qd,.string Qe,.int .i64 Qf,.int .i64 Qg,.int .i64 fa1,.int .i64 Qh] 65)=w1:=⟨_,rfl⟩
   have b0:w1.cell? ⟨wr.heap.size,0,none⟩=some (.int .i64 Qa):=by rw [<-hw1];exact az rfl 0 rfl
   have b1:w1.cell? ⟨wr.heap.size,1,none⟩=some (.slice Qb Qc Qd):=by rw [<-hw1];exact az rfl 1 rfl
   have b2:w1.cell? ⟨wr.heap.size,2,none⟩=some (.string Qe):=by rw [<-hw1];exact az rfl 2 rfl
   have b3:w1.cell? ⟨wr.heap.size,3,none⟩=some (.int .i64 Qf):=by rw [<-hw1];exact az rfl 3 rfl
   have b4:w1.cell? ⟨wr.heap.size,4,none⟩=some (.int .i64 Qg):=by rw [<-hw1];exact az rfl 4 rfl
   have b5:w1.cell? ⟨wr.heap.size,5,none⟩=some (.int .i64 fa1):=by rw [<-hw1];exact az rfl 5 rfl
   have b6:w1.cell? ⟨wr.heap.size,6,none⟩=some (.int .i64 Qh):=by rw [<-hw1];exact az rfl 6 rfl
   have hs1':wr.heap.size<=w1.heap.size:=by rw [<-hw1];simp
   rw [hw1] at p_ CO HOW
   clear hr P_ hcg HR HI0 c1 hwb HI hs1 hs2
   go_wp2_with (first
    | (go_at_call 52;refine (aa p_).mono ?_;clear p_;rintro e w2 ⟨n,t2,T2,S2,C2,rfl,HR2,xL,iy⟩;have jh:=hide (aa HOW w2 t2 (aa iy).fr);have hs2:X.heap.size<=w2.heap.size:=Nat.le_trans (Nat.le_trans ZT hs1') (aa iy).fr.size)
    | (at_builtin;refine xy X.heap.size w2 (ay ns) (.slice a1 ns.length c1') (n:Int) (.tmp 15) (.tmp 19) rfl rfl rfl rfl jh hs2 (by rw [aO];omega) ?_;intro g3 gp w3 qg ZU))
   go_roundw
   case rel=>
    have HX:=hide (aa CO n T2 t2 S2 C2 w2 w3 g3 gp HR2 (aa xL) (aa iy) (aa qg) (aa ZU))
    have el:(ay (ns++[n])).length=ns.length+1:=by rw [aO,List.length_append];rfl
    rw [el] at HX
    have hle':(ns++[n]).length<=aM.length:=by rw [List.length_append];exact hlt
    have Qi:(ns++[n]).length=ns.length+1:=by simp
    exact ⟨ns++[n],T2,t2,S2,C2,hle',by rw [Qi];rfl,⟨some ⟨g3,0,none⟩,gp,by rw [Qi,aO]⟩,by rw [aO];exact HX⟩
   case measure=>simp [intOf];omega
  ·have en:ns.length=aM.length:=by omega
   have enc:ns.length=ts.length:=by have:=aa P9;omega
   have qN:=hr.rp
   have hnx:=hr.nx
   rw [enc,List.take_length] at qN hnx
   have hln:=hnx.len
   have hown:=hr.own
   rw [aO] at hown
   have l_:=hide (HF wr X t' T' S' C' ns a1 c1' ok (hide hr.sz) qN enc (by omega) (by rw [enc] at hown;exact hown))
   rw [hnx.fr.tb] at l_
   have c0:=aa zF wr hr.nd
   have LW:=hide hnx
   have hI:¬ (ns.length:Int)<(aM.length:Int):=by omega
   clear hr HR HI0 c1 hwb HI qN hnx hown HF
   rw [<-enc] at l_
   rw [en] at l_ hI ⊢
   clear en enc
   go_wp2_with (go_at_call 77;refine (aa l_).mono ?_;clear l_;rintro e w4 HH;have CS:=hide HH;obtain ⟨r4,t4,T4,S4,C4,rfl,-⟩:=HH)
   go_ret
   exact BO.then (aa LW) (aa CS)
set_option maxRecDepth 100000 in
set_option maxHeartbeats 4000000 in
theorem WT {m:Nd} {aM:List Nd} {p:Pt} {ts:List Pt} {c:Pt->Nat} {g0:Nat} (h1:m.sh=3) (h2:jo W F m.pv aM) (hlen:aM.length=ts.length) (hz:ts.length<=1000) (HI:∀ (i:Nat) (h:i<aM.length) (h':i<ts.length),L9 B W F aM[i] ts[i] (c ts[i])) (HF:NY B 80 p ts g0):L9 B W F m p (bu (ts.map c)+g0):=by
 intro X t T S C ok hst h hl
 have hp:=fT h2 (aa hst)
 obtain ⟨ao,cap,epv,hv⟩:=aN hp
 obtain ⟨e1,e2,e3⟩:m.pa=ao/\m.pn=aM.length/\m.pc=cap:=by injection epv with e1 e2 e3;exact ⟨e1,e2,e3⟩
 have ZR:Hid (∀ (wr:World) (k:Nat) (hk:k<aM.length),ma W wr F->∃ g,ao=some ⟨g,0,none⟩/\nV wr g (k*7) aM[k]):=fun wr k hk hs=>by
  have hp':=fT h2 hs
  obtain ⟨ao',cap',e',hv'⟩:=aN hp'
  obtain ⟨g',e4,_,_,hgc,_⟩:=hv' (by omega)
  have:ao=ao':=by rw [epv] at e';injection e'
  exact ⟨g',this.trans e4,pW hgc k hk⟩
 have HN:=hide (au.new X m)
 have HB:Hid (Below X.heap.size X (X.alloc (aB m))):=(Below.refl _ _).alloc (Nat.le_refl _) _
 have HI0:Hid (SK B X t T S c ok ts m W F (.slice none 0 0) (X.alloc (aB m)) [] T t S C):=⟨World.ownsRow_nil _ _ _ _,aa (Sz.alloc h _),.nil,Nx.world (a_.below (aa HB)),(aa hst).below (aa HB),aa HN⟩
 have hmv:gm m=.agg #[.int .i64 3,.slice ao aM.length cap,.string m.ss,.int .i64 m.le,.int .i64 m.mo,.int .i64 m.fa,.int .i64 m.sz]:=by unfold gm;rw [h1,e1,e2,e3]
 have P8:aB m=.cells #[.int .i64 3,.slice ao aM.length cap,.string m.ss,.int .i64 m.le,.int .i64 m.mo,.int .i64 m.fa,.int .i64 m.sz] 65:=by unfold aB;rw [h1,e1,e2,e3]
 rw [hmv]
 rw [P8] at HI0
 have zF:Hid (∀ wr,au wr X.heap.size m->wr.cell? ⟨X.heap.size,0,none⟩=some (.int .i64 3)):=fun wr hn=>by obtain ⟨a0,a1,a2,a3,a4,a5,a6⟩:=au.cells hn;rw [h1] at a0;exact a0
 have P9:=hide hlen
 have hnz:aM.length<=1000:=by omega
 have hh0:True:=trivial
 clear hmv P8 HN HB hst h epv hp hv h2 e1 e2 e3 h1 hlen
 generalize m.ss=xs at *
 generalize m.le=xl at *
 generalize m.mo=xm at *
 generalize m.fa=xa at *
 generalize m.sz=xz at *
 obtain ⟨wb,hwb⟩:∃ wb,X.alloc (.cells #[.int .i64 3,.slice ao aM.length cap,.string xs,.int .i64 xl,.int .i64 xm,.int .i64 xa,.int .i64 xz] 65)=wb:=⟨_,rfl⟩
 have c1:wb.cell? ⟨X.heap.size,1,none⟩=some (.slice ao aM.length cap):=by rw [<-hwb];exact az rfl 1 rfl
 rw [hwb] at HI0
 go_enter Tryz.func52,Tryz.ntmps52
 go_wp2_with fail
 go_loopw [5,11] (fun v i wr=>∃ (ns:List Nat) (T':List Te) (t':TB) (S' C':List (Value×Value)),ns.length<=aM.length/\i=.int .i64 (ns.length:Int)/\(∃ a1 c1,v=.slice a1 ns.length c1)/\Hid (SK B X t T S c ok ts m W F v wr ns T' t' S' C')) (fun _ i _=>aM.length - (intOf i).toNat)
 case atStart=>exact ⟨[],T,t,S,C,Nat.zero_le _,rfl,⟨none,0,rfl⟩,HI0⟩
 case round=>
  obtain ⟨ns,T',t',S',C',hle,rfl,⟨a1,c1',rfl⟩,HR⟩:=hrel
  have hr:=aa HR
  by_cases hlt:ns.length<aM.length
  ·obtain ⟨g,rfl,d0,d1,d2,d3,d4,d5,d6⟩:=aa ZR wr ns.length hlt hr.stay
   have hlc:ns.length<ts.length:=by have:=aa P9;omega
   have hcg:ts[ns.length]? = some ts[ns.length]:=List.getElem?_eq_getElem hlc
   have P_:=HI ns.length hlt hlc
   have hs1:=mX c ts ns.length _ hcg
   have hs2:=hr.nx.len
   generalize ts[ns.length]=pp at *
   have p_:=hide (P_ (wr.alloc (aB aM[ns.length])) t' T' S' C' ok (hide (hr.stay.below ((Below.refl _ _).alloc (Nat.le_refl _) _))) (Sz.alloc (hide hr.sz) _) (by omega))
   rw [hr.nx.fr.tb] at p_
   have CO:=hide (fun (n:Nat) (T2:List Te) (t2:TB) (S2 C2:List (Value×Value)) (w2 w3:World) (g3 gp:Nat) (x1:Rp T2 n (cZ pp)) (x2:Sz B w2 t2 T2 S2 C2) (x3:Nx [] [] ok (c pp) (wr.alloc (aB aM[ns.length])) t' T' S' w2 t2 T2 S2) (x4:w3.ownsRow X.heap.size 3 1 (.slice (some ⟨g3,0,none⟩) (ay ns++[(n:Int)]).length gp) (ay ns++[(n:Int)]).length (ints (ay ns++[(n:Int)]))) (x5:L8 w2 w3 (.slice a1 ns.length c1'))=>hr.next (o:=aB aM[ns.length]) hcg x1 x2 x3 x4 x5)
   have HOW:=hide (fun (w2:World) (t2:TB) (x3:a_ t' t2 (wr.alloc (aB aM[ns.length])) w2)=>mW (hr.own.alloc (aB aM[ns.length])) (aa (aX.alloc (hide hr.sz.tab) _)) x3 (by decide) (by decide))
   have ZT:X.heap.size<=wr.heap.size:=hr.nx.fr.size
   have hI:(ns.length:Int)<(aM.length:Int):=by omega
   have hI0:(0:Int)<=(ns.length:Int):=by omega
   generalize aM[ns.length]=m1 at *
   obtain ⟨Qa,Qb,Qc,Qd,Qe,Qf,Qg,fa1,Qh⟩:=m1
   dsimp only [gm,aB] at p_ CO HOW
   dsimp only at d0 d1 d2 d3 d4 d5 d6
   obtain ⟨w1,hw1⟩:∃ w1,wr.alloc (.cells #[.int .i64 Qa,.slice Qb Qc Qd,.string Qe,.int .i64 Qf,.int .i64 Qg,.int .i64 fa1,.int .i64 Qh] 65)=w1:=⟨_,rfl⟩
   have b0:w1.cell? ⟨wr.heap.size,0,none⟩=some (.int .i64 Qa):=by rw [<-hw1];exact az rfl 0 rfl
   have b1:w1.cell? ⟨wr.heap.size,1,none⟩=some (.slice Qb Qc Qd):=by rw [<-hw1];exact az rfl 1 rfl
   have b2:w1.cell? ⟨wr.heap.size,2,none⟩=some (.string Qe):=by rw [<-hw1];exact az rfl 2 rfl
   have b3:w1.cell? ⟨wr.heap.size,3,none⟩=some (.int .i64 Qf):=by rw [<-hw1];exact az rfl 3 rfl
   have b4:w1.cell? ⟨wr.heap.size,4,none⟩=some (.int .i64 Qg):=by rw [<-hw1];exact az rfl 4 rfl
   have b5:w1.cell? ⟨wr.heap.size,5,none⟩=some (.int .i64 fa1):=by rw [<-hw1];exact az rfl 5 rfl
   have b6:w1.cell? ⟨wr.heap.size,6,none⟩=some (.int .i64 Qh):=by rw [<-hw1];exact az rfl 6 rfl
   have hs1':wr.heap.size<=w1.heap.size:=by rw [<-hw1];simp
   rw [hw1] at p_ CO HOW
   clear hr P_ hcg HR HI0 c1 hwb HI hs1 hs2
   go_wp2_with (first
    | (go_at_call 52;refine (aa p_).mono ?_;clear p_;rintro e w2 ⟨n,t2,T2,S2,C2,rfl,HR2,xL,iy⟩;have jh:=hide (aa HOW w2 t2 (aa iy).fr);have hs2:X.heap.size<=w2.heap.size:=Nat.le_trans (Nat.le_trans ZT hs1') (aa iy).fr.size)
    | (at_builtin;refine xy X.heap.size w2 (ay ns) (.slice a1 ns.length c1') (n:Int) (.tmp 15) (.tmp 19) rfl rfl rfl rfl jh hs2 (by rw [aO];omega) ?_;intro g3 gp w3 qg ZU))
   go_roundw
   case rel=>
    have HX:=hide (aa CO n T2 t2 S2 C2 w2 w3 g3 gp HR2 (aa xL) (aa iy) (aa qg) (aa ZU))
    have el:(ay (ns++[n])).length=ns.length+1:=by rw [aO,List.length_append];rfl
    rw [el] at HX
    have hle':(ns++[n]).length<=aM.length:=by rw [List.length_append];exact hlt
    have Qi:(ns++[n]).length=ns.length+1:=by simp
    exact ⟨ns++[n],T2,t2,S2,C2,hle',by rw [Qi];rfl,⟨some ⟨g3,0,none⟩,gp,by rw [Qi,aO]⟩,by rw [aO];exact HX⟩
   case measure=>simp [intOf];omega
  ·have en:ns.length=aM.length:=by omega
   have enc:ns.length=ts.length:=by have:=aa P9;omega
   have qN:=hr.rp
   have hnx:=hr.nx
   rw [enc,List.take_length] at qN hnx
   have hln:=hnx.len
   have hown:=hr.own
   rw [aO] at hown
   have l_:=hide (HF wr X t' T' S' C' ns a1 c1' ok (hide hr.sz) qN enc (by omega) (by rw [enc] at hown;exact hown))
   rw [hnx.fr.tb] at l_
   have c0:=aa zF wr hr.nd
   have LW:=hide hnx
   have hI:¬ (ns.length:Int)<(aM.length:Int):=by omega
   clear hr HR HI0 c1 hwb HI qN hnx hown HF
   rw [<-enc] at l_
   rw [en] at l_ hI ⊢
   clear en enc
   go_wp2_with (go_at_call 80;refine (aa l_).mono ?_;clear l_;rintro e w4 HH;have CS:=hide HH;obtain ⟨r4,t4,T4,S4,C4,rfl,-⟩:=HH)
   go_ret
   exact BO.then (aa LW) (aa CS)
end
section
variable {B:List Int} {W:World} {F:Nat->Prop}
set_option maxRecDepth 100000 in
set_option maxHeartbeats 4000000 in
theorem aci {m:Nd} {aM:List Nd} {p:Pt} {ts:List Pt} {c:Pt->Nat} {g0:Nat} (h1:m.sh=4) (h2:jo W F m.pv aM) (hlen:aM.length=ts.length) (hz:ts.length<=1000) (HI:∀ (i:Nat) (h:i<aM.length) (h':i<ts.length),L9 B W F aM[i] ts[i] (c ts[i])) {p1:Pt} (hts:ts=[p1]) (HF:∀ (w3:World) (t3:TB) (T3:List Te) (S3 C3:List (Value×Value)) (r:Nat) (ok:Nat->Prop),Hid (Sz B w3 t3 T3 S3 C3)->Rp T3 r (cZ p1)->T3.length+g0+100000<=fU->Calls Tryz.prog 78 #[.pointer (some ⟨t3.tb,0,none⟩),.int .i64 (r:Int)] w3 (BO B [] [] ok g0 (cZ p) w3 t3 T3 S3)):L9 B W F m p (bu (ts.map c)+g0):=by
 intro X t T S C ok hst h hl
 have hp:=fT h2 (aa hst)
 obtain ⟨ao,cap,epv,hv⟩:=aN hp
 obtain ⟨e1,e2,e3⟩:m.pa=ao/\m.pn=aM.length/\m.pc=cap:=by injection epv with e1 e2 e3;exact ⟨e1,e2,e3⟩
 have ZR:Hid (∀ (wr:World) (k:Nat) (hk:k<aM.length),ma W wr F->∃ g,ao=some ⟨g,0,none⟩/\nV wr g (k*7) aM[k]):=fun wr k hk hs=>by
  have hp':=fT h2 hs
  obtain ⟨ao',cap',e',hv'⟩:=aN hp'
  obtain ⟨g',e4,_,_,hgc,_⟩:=hv' (by omega)
  have:ao=ao':=by rw [epv] at e';injection e'
  exact ⟨g',this.trans e4,pW hgc k hk⟩
 have HN:=hide (au.new X m)
 have HB:Hid (Below X.heap.size X (X.alloc (aB m))):=(Below.refl _ _).alloc (Nat.le_refl _) _
 have HI0:Hid (SK B X t T S c ok ts m W F (.slice none 0 0) (X.alloc (aB m)) [] T t S C):=⟨World.ownsRow_nil _ _ _ _,aa (Sz.alloc h _),.nil,Nx.world (a_.below (aa HB)),(aa hst).below (aa HB),aa HN⟩
 have hmv:gm m=.agg #[.int .i64 4,.slice ao aM.length cap,.string m.ss,.int .i64 m.le,.int .i64 m.mo,.int .i64 m.fa,.int .i64 m.sz]:=by unfold gm;rw [h1,e1,e2,e3]
 have P8:aB m=.cells #[.int .i64 4,.slice ao aM.length cap,.string m.ss,.int .i64 m.le,.int .i64 m.mo,.int .i64 m.fa,.int .i64 m.sz] 65:=by unfold aB;rw [h1,e1,e2,e3]
 rw [hmv]
 rw [P8] at HI0
 have zF:Hid (∀ wr,au wr X.heap.size m->wr.cell? ⟨X.heap.size,0,none⟩=some (.int .i64 4)):=fun wr hn=>by obtain ⟨a0,a1,a2,a3,a4,a5,a6⟩:=au.cells hn;rw [h1] at a0;exact a0
 have P9:=hide hlen
 have hnz:aM.length<=1000:=by omega
 have hh0:True:=trivial
 clear hmv P8 HN HB hst h epv hp hv h2 e1 e2 e3 h1 hlen
 generalize m.ss=xs at *
 generalize m.le=xl at *
 generalize m.mo=xm at *
 generalize m.fa=xa at *
 generalize m.sz=xz at *
 obtain ⟨wb,hwb⟩:∃ wb,X.alloc (.cells #[.int .i64 4,.slice ao aM.length cap,.string xs,.int .i64 xl,.int .i64 xm,.int .i64 xa,.int .i64 xz] 65)=wb:=⟨_,rfl⟩
 have c1:wb.cell? ⟨X.heap.size,1,none⟩=some (.slice ao aM.length cap):=by rw [<-hwb];exact az rfl 1 rfl
 rw [hwb] at HI0
 go_enter Tryz.func52,Tryz.ntmps52
 go_wp2_with fail
 go_loopw [5,11] (fun v i wr=>∃ (ns:List Nat) (T':List Te) (t':TB) (S' C':List (Value×Value)),ns.length<=aM.length/\i=.int .i64 (ns.length:Int)/\(∃ a1 c1,v=.slice a1 ns.length c1)/\Hid (SK B X t T S c ok ts m W F v wr ns T' t' S' C')) (fun _ i _=>aM.length - (intOf i).toNat)
 case atStart=>exact ⟨[],T,t,S,C,Nat.zero_le _,rfl,⟨none,0,rfl⟩,HI0⟩
 case round=>
  obtain ⟨ns,T',t',S',C',hle,rfl,⟨a1,c1',rfl⟩,HR⟩:=hrel
  have hr:=aa HR
  by_cases hlt:ns.length<aM.length
  ·obtain ⟨g,rfl,d0,d1,d2,d3,d4,d5,d6⟩:=aa ZR wr ns.length hlt hr.stay
   have hlc:ns.length<ts.length:=by have:=aa P9;omega
   have hcg:ts[ns.length]? = some ts[ns.length]:=List.getElem?_eq_getElem hlc
   have P_:=HI ns.length hlt hlc
   have hs1:=mX c ts ns.length _ hcg
   have hs2:=hr.nx.len
   generalize ts[ns.length]=pp at *
   have p_:=hide (P_ (wr.alloc (aB aM[ns.length])) t' T' S' C' ok (hide (hr.stay.below ((Below.refl _ _).alloc (Nat.le_refl _) _))) (Sz.alloc (hide hr.sz) _) (by omega))
   rw [hr.nx.fr.tb] at p_
   have CO:=hide (fun (n:Nat) (T2:List Te) (t2:TB) (S2 C2:List (Value×Value)) (w2 w3:World) (g3 gp:Nat) (x1:Rp T2 n (cZ pp)) (x2:Sz B w2 t2 T2 S2 C2) (x3:Nx [] [] ok (c pp) (wr.alloc (aB aM[ns.length])) t' T' S' w2 t2 T2 S2) (x4:w3.ownsRow X.heap.size 3 1 (.slice (some ⟨g3,0,none⟩) (ay ns++[(n:Int)]).length gp) (ay ns++[(n:Int)]).length (ints (ay ns++[(n:Int)]))) (x5:L8 w2 w3 (.slice a1 ns.length c1'))=>hr.next (o:=aB aM[ns.length]) hcg x1 x2 x3 x4 x5)
   have HOW:=hide (fun (w2:World) (t2:TB) (x3:a_ t' t2 (wr.alloc (aB aM[ns.length])) w2)=>mW (hr.own.alloc (aB aM[ns.length])) (aa (aX.alloc (hide hr.sz.tab) _)) x3 (by decide) (by decide))
   have ZT:X.heap.size<=wr.heap.size:=hr.nx.fr.size
   have hI:(ns.length:Int)<(aM.length:Int):=by omega
   have hI0:(0:Int)<=(ns.length:Int):=by omega
   generalize aM[ns.length]=m1 at *
   obtain ⟨Qa,Qb,Qc,Qd,Qe,Qf,Qg,fa1,Qh⟩:=m1
   dsimp only [gm,aB] at p_ CO HOW
   dsimp only at d0 d1 d2 d3 d4 d5 d6
   obtain ⟨w1,hw1⟩:∃ w1,wr.alloc (.cells #[.int .i64 Qa,.slice Qb Qc Qd,.string Qe,.int .i64 Qf,.int .i64 Qg,.int .i64 fa1,.int .i64 Qh] 65)=w1:=⟨_,rfl⟩
   have b0:w1.cell? ⟨wr.heap.size,0,none⟩=some (.int .i64 Qa):=by rw [<-hw1];exact az rfl 0 rfl
   have b1:w1.cell? ⟨wr.heap.size,1,none⟩=some (.slice Qb Qc Qd):=by rw [<-hw1];exact az rfl 1 rfl
   have b2:w1.cell? ⟨wr.heap.size,2,none⟩=some (.string Qe):=by rw [<-hw1];exact az rfl 2 rfl
   have b3:w1.cell? ⟨wr.heap.size,3,none⟩=some (.int .i64 Qf):=by rw [<-hw1];exact az rfl 3 rfl
   have b4:w1.cell? ⟨wr.heap.size,4,none⟩=some (.int .i64 Qg):=by rw [<-hw1];exact az rfl 4 rfl
   have b5:w1.cell? ⟨wr.heap.size,5,none⟩=some (.int .i64 fa1):=by rw [<-hw1];exact az rfl 5 rfl
   have b6:w1.cell? ⟨wr.heap.size,6,none⟩=some (.int .i64 Qh):=by rw [<-hw1];exact az rfl 6 rfl
   have hs1':wr.heap.size<=w1.heap.size:=by rw [<-hw1];simp
   rw [hw1] at p_ CO HOW
   clear hr P_ hcg HR HI0 c1 hwb HI hs1 hs2
   go_wp2_with (first
    | (go_at_call 52;refine (aa p_).mono ?_;clear p_;rintro e w2 ⟨n,t2,T2,S2,C2,rfl,HR2,xL,iy⟩;have jh:=hide (aa HOW w2 t2 (aa iy).fr);have hs2:X.heap.size<=w2.heap.size:=Nat.le_trans (Nat.le_trans ZT hs1') (aa iy).fr.size)
    | (at_builtin;refine xy X.heap.size w2 (ay ns) (.slice a1 ns.length c1') (n:Int) (.tmp 15) (.tmp 19) rfl rfl rfl rfl jh hs2 (by rw [aO];omega) ?_;intro g3 gp w3 qg ZU))
   go_roundw
   case rel=>
    have HX:=hide (aa CO n T2 t2 S2 C2 w2 w3 g3 gp HR2 (aa xL) (aa iy) (aa qg) (aa ZU))
    have el:(ay (ns++[n])).length=ns.length+1:=by rw [aO,List.length_append];rfl
    rw [el] at HX
    have hle':(ns++[n]).length<=aM.length:=by rw [List.length_append];exact hlt
    have Qi:(ns++[n]).length=ns.length+1:=by simp
    exact ⟨ns++[n],T2,t2,S2,C2,hle',by rw [Qi];rfl,⟨some ⟨g3,0,none⟩,gp,by rw [Qi,aO]⟩,by rw [aO];exact HX⟩
   case measure=>simp [intOf];omega
  ·have en:ns.length=aM.length:=by omega
   have enc:ns.length=ts.length:=by have:=aa P9;omega
   have qN:=hr.rp
   have hnx:=hr.nx
   rw [enc,List.take_length] at qN hnx
   have hln:=hnx.len
   have hown:=hr.own
   rw [aO] at hown
   obtain ⟨r,rfl⟩:∃ r,ns=[r]:=by
    rw [hts] at enc
    match ns,enc with
    | [r],_=>exact ⟨r,rfl⟩
   have hr1:Rp T' r (cZ p1):=by
    rw [hts] at qN
    cases qN with
    | cons q _=>exact q
   obtain ⟨ao5,cap5,e5,hv5⟩:=aN hown
   obtain ⟨g5,e6,-⟩:=hv5 (by simp)
   injection e5 with e7 e8 e9
   subst e7
   subst e9
   subst e6
   have cr:wr.cell? ⟨g5,0,none⟩=some (.int .i64 (r:Int)):=by
    rw [hown.cellAt 0 (by simp)];rfl
   have l_:=hide (HF wr t' T' S' C' r ok (hide hr.sz) hr1 (by omega))
   rw [hnx.fr.tb] at l_
   have c0:=aa zF wr hr.nd
   have LW:=hide hnx
   have hnl:aM.length=1:=by rw [<-en];rfl
   have hI:¬ ((1:Nat):Int)<(aM.length:Int):=by omega
   clear hr HR HI0 c1 hwb HI qN hnx hown HF hv5 hr1
   simp only [List.length_cons,List.length_nil,Nat.zero_add] at hI ⊢
   rw [hnl] at hI ⊢
   clear en enc
   go_wp2_with (go_at_call 78;refine (aa l_).mono ?_;clear l_;rintro e w4 HH;have CS:=hide HH;obtain ⟨r4,t4,T4,S4,C4,rfl,-⟩:=HH)
   go_ret
   exact BO.then (aa LW) (aa CS)
set_option maxRecDepth 100000 in
set_option maxHeartbeats 4000000 in
theorem acj {m:Nd} {aM:List Nd} {p:Pt} {ts:List Pt} {c:Pt->Nat} {g0:Nat} (h1:m.sh=5) (h2:jo W F m.pv aM) (hlen:aM.length=ts.length) (hz:ts.length<=1000) (HI:∀ (i:Nat) (h:i<aM.length) (h':i<ts.length),L9 B W F aM[i] ts[i] (c ts[i])) {p1:Pt} (hts:ts=[p1]) (HF:∀ (w3:World) (t3:TB) (T3:List Te) (S3 C3:List (Value×Value)) (r:Nat) (ok:Nat->Prop),Hid (Sz B w3 t3 T3 S3 C3)->Rp T3 r (cZ p1)->T3.length+g0+100000<=fU->Calls Tryz.prog 81 #[.pointer (some ⟨t3.tb,0,none⟩),.int .i64 (r:Int),.int .i64 m.le,.int .i64 m.mo] w3 (BO B [] [] ok g0 (cZ p) w3 t3 T3 S3)):L9 B W F m p (bu (ts.map c)+g0):=by
 intro X t T S C ok hst h hl
 have hp:=fT h2 (aa hst)
 obtain ⟨ao,cap,epv,hv⟩:=aN hp
 obtain ⟨e1,e2,e3⟩:m.pa=ao/\m.pn=aM.length/\m.pc=cap:=by injection epv with e1 e2 e3;exact ⟨e1,e2,e3⟩
 have ZR:Hid (∀ (wr:World) (k:Nat) (hk:k<aM.length),ma W wr F->∃ g,ao=some ⟨g,0,none⟩/\nV wr g (k*7) aM[k]):=fun wr k hk hs=>by
  have hp':=fT h2 hs
  obtain ⟨ao',cap',e',hv'⟩:=aN hp'
  obtain ⟨g',e4,_,_,hgc,_⟩:=hv' (by omega)
  have:ao=ao':=by rw [epv] at e';injection e'
  exact ⟨g',this.trans e4,pW hgc k hk⟩
 have HN:=hide (au.new X m)
 have HB:Hid (Below X.heap.size X (X.alloc (aB m))):=(Below.refl _ _).alloc (Nat.le_refl _) _
 have HI0:Hid (SK B X t T S c ok ts m W F (.slice none 0 0) (X.alloc (aB m)) [] T t S C):=⟨World.ownsRow_nil _ _ _ _,aa (Sz.alloc h _),.nil,Nx.world (a_.below (aa HB)),(aa hst).below (aa HB),aa HN⟩
 have hmv:gm m=.agg #[.int .i64 5,.slice ao aM.length cap,.string m.ss,.int .i64 m.le,.int .i64 m.mo,.int .i64 m.fa,.int .i64 m.sz]:=by unfold gm;rw [h1,e1,e2,e3]
 have P8:aB m=.cells #[.int .i64 5,.slice ao aM.length cap,.string m.ss,.int .i64 m.le,.int .i64 m.mo,.int .i64 m.fa,.int .i64 m.sz] 65:=by unfold aB;rw [h1,e1,e2,e3]
 rw [hmv]
 rw [P8] at HI0
 have zF:Hid (∀ wr,au wr X.heap.size m->wr.cell? ⟨X.heap.size,0,none⟩=some (.int .i64 5)/\wr.cell? ⟨X.heap.size,3,none⟩=some (.int .i64 m.le)/\wr.cell? ⟨X.heap.size,4,none⟩=some (.int .i64 m.mo)):=fun wr hn=>by obtain ⟨a0,a1,a2,a3,a4,a5,a6⟩:=au.cells hn;rw [h1] at a0;exact ⟨a0,a3,a4⟩
 have P9:=hide hlen
 have hnz:aM.length<=1000:=by omega
 have hh0:True:=trivial
 clear hmv P8 HN HB hst h epv hp hv h2 e1 e2 e3 h1 hlen
 generalize m.ss=xs at *
 obtain ⟨xl,hxl⟩:∃ xl,m.le=xl:=⟨_,rfl⟩
 obtain ⟨xm,hxm⟩:∃ xm,m.mo=xm:=⟨_,rfl⟩
 have HMM:Hid (m.le=xl/\m.mo=xm):=⟨hxl,hxm⟩
 simp only [hxl,hxm] at HI0 zF HF ⊢
 clear hxl hxm
 generalize m.fa=xa at *
 generalize m.sz=xz at *
 obtain ⟨wb,hwb⟩:∃ wb,X.alloc (.cells #[.int .i64 5,.slice ao aM.length cap,.string xs,.int .i64 xl,.int .i64 xm,.int .i64 xa,.int .i64 xz] 65)=wb:=⟨_,rfl⟩
 have c1:wb.cell? ⟨X.heap.size,1,none⟩=some (.slice ao aM.length cap):=by rw [<-hwb];exact az rfl 1 rfl
 rw [hwb] at HI0
 go_enter Tryz.func52,Tryz.ntmps52
 go_wp2_with fail
 go_loopw [5,11] (fun v i wr=>∃ (ns:List Nat) (T':List Te) (t':TB) (S' C':List (Value×Value)),ns.length<=aM.length/\i=.int .i64 (ns.length:Int)/\(∃ a1 c1,v=.slice a1 ns.length c1)/\Hid (SK B X t T S c ok ts m W F v wr ns T' t' S' C')) (fun _ i _=>aM.length - (intOf i).toNat)
 case atStart=>exact ⟨[],T,t,S,C,Nat.zero_le _,rfl,⟨none,0,rfl⟩,HI0⟩
 case round=>
  obtain ⟨ns,T',t',S',C',hle,rfl,⟨a1,c1',rfl⟩,HR⟩:=hrel
  have hr:=aa HR
  by_cases hlt:ns.length<aM.length
  ·obtain ⟨g,rfl,d0,d1,d2,d3,d4,d5,d6⟩:=aa ZR wr ns.length hlt hr.stay
   have hlc:ns.length<ts.length:=by have:=aa P9;omega
   have hcg:ts[ns.length]? = some ts[ns.length]:=List.getElem?_eq_getElem hlc
   have P_:=HI ns.length hlt hlc
   have hs1:=mX c ts ns.length _ hcg
   have hs2:=hr.nx.len
   generalize ts[ns.length]=pp at *
   have p_:=hide (P_ (wr.alloc (aB aM[ns.length])) t' T' S' C' ok (hide (hr.stay.below ((Below.refl _ _).alloc (Nat.le_refl _) _))) (Sz.alloc (hide hr.sz) _) (by omega))
   rw [hr.nx.fr.tb] at p_
   have CO:=hide (fun (n:Nat) (T2:List Te) (t2:TB) (S2 C2:List (Value×Value)) (w2 w3:World) (g3 gp:Nat) (x1:Rp T2 n (cZ pp)) (x2:Sz B w2 t2 T2 S2 C2) (x3:Nx [] [] ok (c pp) (wr.alloc (aB aM[ns.length])) t' T' S' w2 t2 T2 S2) (x4:w3.ownsRow X.heap.size 3 1 (.slice (some ⟨g3,0,none⟩) (ay ns++[(n:Int)]).length gp) (ay ns++[(n:Int)]).length (ints (ay ns++[(n:Int)]))) (x5:L8 w2 w3 (.slice a1 ns.length c1'))=>hr.next (o:=aB aM[ns.length]) hcg x1 x2 x3 x4 x5)
   have HOW:=hide (fun (w2:World) (t2:TB) (x3:a_ t' t2 (wr.alloc (aB aM[ns.length])) w2)=>mW (hr.own.alloc (aB aM[ns.length])) (aa (aX.alloc (hide hr.sz.tab) _)) x3 (by decide) (by decide))
   have ZT:X.heap.size<=wr.heap.size:=hr.nx.fr.size
   have hI:(ns.length:Int)<(aM.length:Int):=by omega
   have hI0:(0:Int)<=(ns.length:Int):=by omega
   generalize aM[ns.length]=m1 at *
   obtain ⟨Qa,Qb,Qc,Qd,Qe,Qf,Qg,fa1,Qh⟩:=m1
   dsimp only [gm,aB] at p_ CO HOW
   dsimp only at d0 d1 d2 d3 d4 d5 d6
   obtain ⟨w1,hw1⟩:∃ w1,wr.alloc (.cells #[.int .i64 Qa,.slice Qb Qc Qd,.string Qe,.int .i64 Qf,.int .i64 Qg,.int .i64 fa1,.int .i64 Qh] 65)=w1:=⟨_,rfl⟩
   have b0:w1.cell? ⟨wr.heap.size,0,none⟩=some (.int .i64 Qa):=by rw [<-hw1];exact az rfl 0 rfl
   have b1:w1.cell? ⟨wr.heap.size,1,none⟩=some (.slice Qb Qc Qd):=by rw [<-hw1];exact az rfl 1 rfl
   have b2:w1.cell? ⟨wr.heap.size,2,none⟩=some (.string Qe):=by rw [<-hw1];exact az rfl 2 rfl
   have b3:w1.cell? ⟨wr.heap.size,3,none⟩=some (.int .i64 Qf):=by rw [<-hw1];exact az rfl 3 rfl
   have b4:w1.cell? ⟨wr.heap.size,4,none⟩=some (.int .i64 Qg):=by rw [<-hw1];exact az rfl 4 rfl
   have b5:w1.cell? ⟨wr.heap.size,5,none⟩=some (.int .i64 fa1):=by rw [<-hw1];exact az rfl 5 rfl
   have b6:w1.cell? ⟨wr.heap.size,6,none⟩=some (.int .i64 Qh):=by rw [<-hw1];exact az rfl 6 rfl
   have hs1':wr.heap.size<=w1.heap.size:=by rw [<-hw1];simp
   rw [hw1] at p_ CO HOW
   clear hr P_ hcg HR HI0 c1 hwb HI hs1 hs2
   go_wp2_with (first
    | (go_at_call 52;refine (aa p_).mono ?_;clear p_;rintro e w2 ⟨n,t2,T2,S2,C2,rfl,HR2,xL,iy⟩;have jh:=hide (aa HOW w2 t2 (aa iy).fr);have hs2:X.heap.size<=w2.heap.size:=Nat.le_trans (Nat.le_trans ZT hs1') (aa iy).fr.size)
    | (at_builtin;refine xy X.heap.size w2 (ay ns) (.slice a1 ns.length c1') (n:Int) (.tmp 15) (.tmp 19) rfl rfl rfl rfl jh hs2 (by rw [aO];omega) ?_;intro g3 gp w3 qg ZU))
   go_roundw
   case rel=>
    have HX:=hide (aa CO n T2 t2 S2 C2 w2 w3 g3 gp HR2 (aa xL) (aa iy) (aa qg) (aa ZU))
    have el:(ay (ns++[n])).length=ns.length+1:=by rw [aO,List.length_append];rfl
    rw [el] at HX
    have hle':(ns++[n]).length<=aM.length:=by rw [List.length_append];exact hlt
    have Qi:(ns++[n]).length=ns.length+1:=by simp
    exact ⟨ns++[n],T2,t2,S2,C2,hle',by rw [Qi];rfl,⟨some ⟨g3,0,none⟩,gp,by rw [Qi,aO]⟩,by rw [aO];exact HX⟩
   case measure=>simp [intOf];omega
  ·have en:ns.length=aM.length:=by omega
   have enc:ns.length=ts.length:=by have:=aa P9;omega
   have qN:=hr.rp
   have hnx:=hr.nx
   rw [enc,List.take_length] at qN hnx
   have hln:=hnx.len
   have hown:=hr.own
   rw [aO] at hown
   obtain ⟨r,rfl⟩:∃ r,ns=[r]:=by
    rw [hts] at enc
    match ns,enc with
    | [r],_=>exact ⟨r,rfl⟩
   have hr1:Rp T' r (cZ p1):=by
    rw [hts] at qN
    cases qN with
    | cons q _=>exact q
   obtain ⟨ao5,cap5,e5,hv5⟩:=aN hown
   obtain ⟨g5,e6,-⟩:=hv5 (by simp)
   injection e5 with e7 e8 e9
   subst e7
   subst e9
   subst e6
   have cr:wr.cell? ⟨g5,0,none⟩=some (.int .i64 (r:Int)):=by
    rw [hown.cellAt 0 (by simp)];rfl
   have l_:=hide (fun q=>HF (wr.drewN q) t' T' S' C' r ok (Sz.drewN (hide hr.sz) q) hr1 (by omega))
   have adW:Hid (aX (wr.drewN 1) t' T' (ak T') S' C'):=(aa (Sz.drewN (hide hr.sz) 1)).tab
   have aeJ:Hid (au (wr.drewN 1) X.heap.size m):=hr.nd
   have HOWN:Hid ((wr.drewN 1).ownsRow X.heap.size 3 1 (.slice (some ⟨g5,0,none⟩) 1 c1') 1 (ints (ay [r]))):=hown
   rw [hnx.fr.tb] at l_
   obtain ⟨c0,c3,c4⟩:=aa zF wr hr.nd
   have LW:=hide hnx
   have hnl:aM.length=1:=by rw [<-en];rfl
   have hI:¬ ((1:Nat):Int)<(aM.length:Int):=by omega
   clear hr HR HI0 c1 hwb HI qN hnx hown HF hv5 hr1
   simp only [List.length_cons,List.length_nil,Nat.zero_add] at hI ⊢
   rw [hnl] at hI ⊢
   clear en enc
   have HME:Hid (m.le=xl/\m.mo=xm):=HMM
   go_wp2_with fail
   go_region_held3 (fun w'=>w'.cell? ⟨g5,0,none⟩=some (.int .i64 (r:Int))/\w'.cell? ⟨X.heap.size,3,none⟩=some (.int .i64 xl)/\w'.cell? ⟨X.heap.size,4,none⟩=some (.int .i64 xm)) (go_keep)
    ((go_at_call 81;refine (aa l_ 1).mono ?_;clear l_;rintro e w4 HH;have CS:=hide HH;obtain ⟨r4,t4,T4,S4,C4,rfl,-,-,Wn⟩:=HH;have hq1:w4.cell? ⟨g5,0,none⟩=some (.int .i64 (r:Int)):=(by rw [(Ak (aa adW) (aa HOWN) (aa Wn).fr).cellAt 0 (by simp)];rfl);have hnd:=au.cells (aa (Lb aeJ adW (hide (aa Wn).fr)));have hq3:=hnd.2.2.2.1;have hq4:=hnd.2.2.2.2.1;rw [(aa HME).1] at hq3;rw [(aa HME).2] at hq4;clear hnd))
   go_wp2_with fail
   go_ret
   exact (BO.then ((aa LW).trans (Nx.world (a_.drewN (a_.refl _ _) 1))) (aa CS)).less (by omega)
end
theorem qE:∀ t:Tm,dO t<=bE t+1
 | .chain a b=>by have:=qE a;have:=qE b;simp only [dO,bE];omega
 | .set _=>by simp [dO]
 | .eps=>by simp [dO]
 | .star _=>by simp [dO]
 | .not _=>by simp [dO]
 | .aZ _ _ _=>by simp [dO]
theorem Qj:∀ (l:List Tm),l.length<=bu (l.map fun m=>bE m+1)
 | []=>by simp
 | a::l=>by have:=Qj l;simp only [List.length_cons,List.map_cons,bu];omega
theorem Dh (k:Bool) (t:Tm):(memT k t).length<=bE t+1:=by rw [<-Ve k t];exact Qj _
inductive Fit (B:List Int):Pt->Prop where
 | set {l:af}:Tidy l->bU B l->l.length<=1000->Fit B (.set l)
 | row {l:List Pt}:(∀ p∈l,Fit B p)->bE (cZ (.row l))<=10000->l.length<=1000->Fit B (.row l)
 | aZ {k:Bool} {l:List Pt}:(∀ p∈l,Fit B p)->bE (cZ (.aZ k l))<=10000->l≠[]->l.length<=1000->Fit B (.aZ k l)
 | not {a:Pt}:Fit B a->bE (cZ (.not a))<=10000->Fit B (.not a)
 | rep {a:Pt} {n:Nat} {m:Option Nat}:Fit B a->bE (cZ (.rep a n m))<=10000->n<=1000->(∀ m',m=some m'->n<=m'/\m'<=1000)->Fit B (.rep a n m)
theorem Fit.nz {B:List Int} {p:Pt} (h:Fit B p):bE (cZ p)<=10000:=by
 cases h with
 | set _ _ _=>exact Nat.zero_le _
 | row _ h _=>exact h
 | aZ _ h _ _=>exact h
 | not _ h=>exact h
 | rep _ h _ _=>exact h
mutual
def cP:Pt->Nat
 | .set _=>30000000
 | .row l=>cPs l+30000000
 | .aZ _ l=>cPs l+30000000
 | .not a=>cP a+30000000
 | .rep a _ _=>cP a+30000000
def cPs:List Pt->Nat
 | []=>0
 | p::r=>cP p+cPs r
end
theorem G8:∀ l:List Pt,cPs l=bu (l.map cP)
 | []=>rfl
 | p::r=>by rw [cPs,G8 r];rfl
section
variable {B:List Int} {W:World} {F:Nat->Prop}
set_option maxRecDepth 100000 in
set_option maxHeartbeats 4000000 in
theorem ack {m:Nd} {l:af} (h1:m.sh=0) (h2:m.ss=encS l) (h3:m.pn=0) (ht:Tidy l) (hb:bU B l) (hz:l.length<=1000):L9 B W F m (.set l) 1:=by
 intro X t T S C ok hst h hl
 obtain ⟨sh,pa,pn,pc,ss,le,mo,fa,sz⟩:=m
 dsimp only at h1 h2 h3
 subst h1 h2 h3
 have hs:(encS l).size<=maxLen:=by
  have:=yB l
  unfold maxLen
  omega
 have HST:=hide (fun (X':World) (hbl:Below X.heap.size X X')=>FP (S:=S) (C:=C) (s:=encS l) (hide (aa (Sz.below h hbl)).tab) hs (by have:=(Op.set (aa h).ti ht hb).len;omega))
 have l_:=hide (Op.set (aa h).ti ht hb)
 clear hs hst hl ht hb hz
 generalize hR:fA T (encS l)=R at *
 generalize encS l=s at *
 unfold gm
 dsimp only
 obtain ⟨wb,hwb⟩:∃ wb,X.alloc (.cells #[.int .i64 0,.slice pa 0 pc,.string s,.int .i64 le,.int .i64 mo,.int .i64 fa,.int .i64 sz] 65)=wb:=⟨_,rfl⟩
 have HB:Hid (Below X.heap.size X wb):=by rw [<-hwb];exact (Below.refl _ _).alloc (Nat.le_refl _) _
 have c0:wb.cell? ⟨X.heap.size,0,none⟩=some (.int .i64 0):=by rw [<-hwb];exact az rfl 0 rfl
 have c1:wb.cell? ⟨X.heap.size,1,none⟩=some (.slice pa 0 pc):=by rw [<-hwb];exact az rfl 1 rfl
 have c2:wb.cell? ⟨X.heap.size,2,none⟩=some (.string s):=by rw [<-hwb];exact az rfl 2 rfl
 have adX:=hide (aa HST wb (aa HB))
 clear HST
 go_enter Tryz.func52,Tryz.ntmps52
 go_wp2_with fail
 go_loopw [5,11] (fun v i wr=>v=.slice none 0 0/\i=.int .i64 0/\Hid (wr=wb)) (fun _ _ _=>0)
 case atStart=>exact ⟨rfl,rfl,rfl⟩
 case round=>
  obtain ⟨rfl,rfl,HW⟩:=hrel
  obtain rfl:wr=wb:=aa HW
  go_wp2_with (go_at_call 82;refine (aa adX).mono ?_;clear adX;rintro e w4 ⟨rfl,t4,zh,VS⟩)
  go_ret
  have h5:=BO.of (G:=[]) (V:=[]) (ok:=ok) (Sz.below h (aa HB)) (aa l_) ⟨rfl,t4,zh,VS⟩
  exact h5.lift (a_.below (aa HB)) (fun _ h=>h)
theorem Qk {w3 X:World} {ns:List Nat} {ao:Option Addr} {n cap:Nat} (h0:0<n) (hn:ns.length=n) (ho:w3.ownsRow X.heap.size 3 1 (.slice ao n cap) n (ints (ay ns))):∃ g,ao=some ⟨g,0,none⟩/\g<w3.heap.size/\∀ j x,(ay ns)[j]? = some x->w3.cell? ⟨g,j,none⟩=some (.int .i64 x):=by
 obtain ⟨ao',cap',e,hv⟩:=aN ho
 injection e with e1 e2 e3
 obtain ⟨g,e4,-⟩:=hv h0
 rw [e4] at e1
 subst e1
 refine ⟨g,rfl,(ho.lt g rfl).2,fun j x hj=>?_⟩
 have hjl:j<ns.length:=by
  have:=(List.getElem?_eq_some_iff.1 hj).1
  rwa [aO] at this
 rw [ho.cellAt j (by omega)]
 unfold ints
 rw [List.getElem?_map,hj];rfl
theorem Ql (l:List Pt):wo l=l.map cZ:=Bq l
theorem ZV {k:Bool} {ts:List Pt} (hB:B.length<=480) (hf:∀ p∈ts,Fit B p) (hn:bE (cZ (.aZ k ts))<=10000) (hne:ts≠[]) (hz:ts.length<=1000):NY B (kG k) (.aZ k ts) ts 20000:=by
 intro w3 X t3 T3 S3 C3 ns ao cap ok h hr hl hlim ho
 have h0:0<ts.length:=by cases ts with
  | nil=>exact absurd rfl hne
  | cons _ _=>simp
 obtain ⟨g,rfl,hg,hc⟩:=Qk h0 hl ho
 have e:cZ (.aZ k ts)=aj k (ts.map cZ):=by rw [cZ,Ql]
 have hmm:=Dh k (cZ (.aZ k ts))
 rw [e] at hmm hn ⊢
 have:=Wp (G:=[]) (V:=[]) (ok:=ok) (cap0:=cap) k h hB hr (by intro q;rw [q] at hl;simp at hl;omega) (by omega) (fun t ht=>by
  obtain ⟨p,hp,rfl⟩:=List.mem_map.1 ht
  have:=Dh k (cZ p)
  have:=(hf p hp).nz
  omega) (by omega) (by omega) hc hg
 rw [hl] at this
 exact this.mono fun _ _ q=>q.less (by omega)
theorem ZW {ts:List Pt} (hf:∀ p∈ts,Fit B p) (hz:ts.length<=1000):NY B 80 (.row ts) ts 20000000:=by
 intro w3 X t3 T3 S3 C3 ns ao cap ok h hr hl hlim ho
 have e:cZ (.row ts)=kI (ts.map cZ):=by rw [cZ,Ql]
 rw [e]
 have hm:ns.length*10001<=1000*10001:=Nat.mul_le_mul_right _ (by omega)
 exact (NW (G:=[]) (V:=[]) (ok:=ok) (M:=10001) (w0:=X) h hr (by omega) (fun y hy=>by
  obtain ⟨p,hp,rfl⟩:=List.mem_map.1 hy
  have:=qE (cZ p)
  have:=(hf p hp).nz
  omega) (by omega) (by rw [hl];exact ho)).mono fun _ _ q=>q.less (by omega)
theorem zt {k:Bool} {p:Pt} (hB:B.length<=480) (hf:Fit B p):NY B (kG k) p [p] 0:=by
 intro w3 X t3 T3 S3 C3 ns ao cap ok h hr hl hlim ho
 obtain ⟨g,rfl,hg,hc⟩:=Qk (by simp) hl ho
 obtain ⟨r,rfl⟩:∃ r,ns=[r]:=by
  match ns,hl with
  | [r],_=>exact ⟨r,rfl⟩
 cases hr with
 | cons h1 h2=>
  have hcn:=(aa h).ti.cn h1
  have hnz:=hf.nz
  have hm:=Dh k (cZ p)
  have eg:aj k [cZ p]=cZ p:=group_one' hcn
  have hrl:g_ T3 [r] [cZ p]:=.cons h1 .nil
  have hT:=(aa h).ti
  have nR:∀ t∈[cZ p],(memT k t).length<=200000:=fun t ht=>by rw [List.mem_singleton.1 ht];omega
  have Sb:(memT k (aj k [cZ p])).length<=200000:=by rw [eg];omega
  have hlm:T3.length+(memT k (aj k [cZ p])).length+2<=fU:=by rw [eg];omega
  have fin:∀ e w',(∃ R,Op B T3 R (aj k [cZ p]) ((memT k (aj k [cZ p])).length+1)/\(∀ r',[r]=[r']->R=(T3,r'))/\FO R w3 t3 S3 C3 e w')->BO B [] [] ok 0 (cZ p) w3 t3 T3 S3 e w':=by
   rintro e w' ⟨R,-,h4,h5⟩
   rw [h4 r rfl] at h5
   exact BO.of h (Op.same hT h1) h5
  cases k
  ·exact (VO (cap0:=cap) (hide (aa h).tab) hT hB hrl (by simp) (by simp) nR Sb hlm hc hg).mono fin
  ·exact (Wj (cap0:=cap) (hide (aa h).tab) hT hB hrl (by simp) (by simp) nR Sb hlm hc hg).mono fin
theorem WU (T:List Te) (n:Nat):zI T [n]=(T,n):=by
 by_cases h0:n=0
 ·subst h0
  unfold zI sG dB
  simp
 ·exact Nk h0
theorem Lc {p:Pt} (hf:Fit B p):NY B 80 p [p] 0:=by
 intro w3 X t3 T3 S3 C3 ns ao cap ok h hr hl hlim ho
 obtain ⟨r,rfl⟩:∃ r,ns=[r]:=by
  match ns,hl with
  | [r],_=>exact ⟨r,rfl⟩
 have hr':=hr
 cases hr with
 | cons h1 h2=>
  have hT:=(aa h).ti
  have hnz:=hf.nz
  have hlc:=qE (cZ p)
  have:=Kh (hide (aa h).tab) (hide (WO (aa h).tab ho)) (hide (Fu (M:=10001) hT hr' (by simp;omega) (fun y hy=>by rw [List.mem_singleton.1 hy];omega))) hT.r1.lt (by simp)
  rw [WU] at this
  exact this.mono fun _ _ q=>BO.of h (Op.same hT h1) q
set_option maxRecDepth 100000 in
theorem acm (hB:B.length<=480) {m:Nd} {p:Pt} (h:gJ W F m p):Fit B p->L9 B W F m p (cP p):=by
 have up:∀ {m:Nd} {p:Pt} {g g':Nat},L9 B W F m p g->g<=g'->L9 B W F m p g':=fun h hg X t T S C ok h1 h2 h3=>(h X t T S C ok h1 h2 (by omega)).mono fun _ _ q=>q.less hg
 induction h with
 | @set n l h1 h2 h3=>
  intro hf
  cases hf with
  | set a1 a2 a3=>exact up (ack h1 h2 h3 a1 a2 a3) (by rw [cP];omega)
 | @aZ n k aM ts h1 h2 h3 h4 ih=>
  intro hf
  cases hf with
  | aZ a1 a2 a3 a4=>
   have hI:∀ (i:Nat) (h:i<aM.length) (h':i<ts.length),L9 B W F aM[i] ts[i] (cP ts[i]):=fun i hi hi'=>ih i hi hi' (a1 _ (List.getElem_mem _))
   have hF:=ZV hB a1 a2 a3 a4
   have hc:bu (ts.map cP)+20000<=cP (.aZ k ts):=by rw [cP,G8];omega
   cases k
   ·exact up (WR h1 h2 h3 a4 hI hF) hc
   ·exact up (WS h1 h2 h3 a4 hI hF) hc
 | @row n aM ts h1 h2 h3 h4 ih=>
  intro hf
  cases hf with
  | row a1 a2 a4=>exact up (WT h1 h2 h3 a4 (fun i hi hi'=>ih i hi hi' (a1 _ (List.getElem_mem _))) (ZW a1 a4)) (by rw [cP,G8];omega)
 | @not n m a h1 h2 h3 ih=>
  intro hf
  cases hf with
  | not a1 a2=>exact up (aci (ts:=[a]) (p1:=a) (c:=cP) (g0:=1) h1 h2 rfl (by simp) (fun i hi hi'=>by
    have:i=0:=by simpa using hi'
    subst this
    exact ih a1) rfl fun w3 t3 T3 S3 C3 r ok hs hr hl=>by rw [cZ];exact Wd hs hr (by omega)) (by rw [cP];simp only [List.map_cons,List.map_nil,bu];omega)
 | @rep n m a least most h1 h2 h3 h4 h5 ih=>
  intro hf
  cases hf with
  | rep a1 a2 a3 a4=>
   have hna:=a1.nz
   have l1:=qE (cZ a)
   refine up (acj (ts:=[a]) (p1:=a) (c:=cP) (g0:=29000000) h1 h2 rfl (by simp) (fun i hi hi'=>by
    have:i=0:=by simpa using hi'
    subst this
    exact ih a1) rfl fun w3 t3 T3 S3 C3 r ok hs hr hl=>?_) (by rw [cP];simp only [List.map_cons,List.map_nil,bu];omega)
   rw [cZ,h4,h5]
   have hcn:=(aa hs).ti.cn hr
   cases most with
   | none=>
    have l2:=qE (gV (cZ a))
    have l3:=O4 (cZ a)
    have hm:(least+1)*10003<=1001*10003:=Nat.mul_le_mul_right _ (by omega)
    exact K_ (M:=10003) hs hr a3 (by omega) (by omega) (by omega) (by omega)
   | some m'=>
    obtain ⟨b1,b2⟩:=a4 m' rfl
    have l2:=qE (pF (cZ a))
    have l3:=Vh hcn
    have l4:=Dh false (cZ a)
    have l5:=Dh false (pF (cZ a))
    have hm:m'*10003<=1000*10003:=Nat.mul_le_mul_right _ b2
    have hm2:(m' - least)*10004<=1000*10004:=Nat.mul_le_mul_right _ (by omega)
    exact La (M:=10003) (K:=10003) hB hs hr b1 b2 (by omega) (by omega) (by omega) (by omega) (by omega) (by omega) (by omega)
 | @one n m p h1 h2 h3 ih=>
  intro hf
  have hI:∀ (i:Nat) (h:i < [m].length) (h':i < [p].length),L9 B W F [m][i] [p][i] (cP [p][i]):=fun i hi hi'=>by
   have:i=0:=by simpa using hi'
   subst this
   exact ih hf
  have hc:bu ([p].map cP)+0<=cP p:=by simp [bu]
  rcases h1 with e | e | e
  ·exact up (WR e h2 rfl (by simp) hI (zt (k:=false) hB hf)) hc
  ·exact up (WS e h2 rfl (by simp) hI (zt (k:=true) hB hf)) hc
  ·exact up (WT e h2 rfl (by simp) hI (Lc hf)) hc
end
end Go.Proofs.YtfolanohokflkaaGreatDoor
