import Derived.Test.YtfolanohokflkaaGreatDoorAlC
import Derived.Test.YtfolanohokflkaaGreatDoorAfC
import Derived.Test.YtfolanohokflkaaGreatDoorCards
import Derived.Test.YtfolanohokflkaaGreatDoorTie
import Derived.Test.YtfolanohokflkaaGreatDoorAfE
import Derived.WalkKit
import Derived.ProofKit
import Derived.OpenShut
import Derived.Carry
import Derived.ChangeOld
import Derived.Deep.Slices
import Derived.ChangeMaps5
import Derived.Deep.DeepHandedRow
import Derived.Lib.LaidTab
import Derived.Lib.LaidU8
import Derived.Lay
namespace Go.Proofs.YtfolanohokflkaaGreatDoor
open Go.RowKit
theorem FI {u:ByteArray} {j:Nat} (hj:j<(pts u).length):(pts u).getD j 0=pt u j:=by rw [<-vD hj];simp [List.getD,hj]
theorem QG {p:ByteArray} {P:Pt} (hp:bG p=.ok P):∃ z:Pn,jl p=.ok z/\¬ 60<z.2/\z.1=P:=by
 have hs:=Hm hp
 have e:=sK p (by omega)
 cases hR:jl p with
 | error y=>rw [hR,hp] at e;cases e
 | ok z=>
  rw [hR,hp] at e
  dsimp only at e
  by_cases hz:60<z.2
  ·rw [if_pos hz] at e;cases e
  ·rw [if_neg hz] at e
   cases e
   exact ⟨z,rfl,hz,rfl⟩
theorem XJ {p u:ByteArray} {P:Pt} (hp:bG p=.ok P) (hu:u.size<=60) {k:Nat} (hk:k<(pts u).length) (hno:∀ Bs,¬ Aq Bs 200 (vI (cZ P) (gu u) k)) (W:World) (ht:Hid (Lib.Utf8Tabs 4 5 W)) :
  Calls Tryz.prog 25 #[.string p,.string u,.int .i64 (((pts u).getD k 0:Nat):Int),.int .i64 200] W fun x w'=>x=.returned (fnW (pts u) (pV (cZ P) (gu u) k))/\Hid (Below W.heap.size W w'):=by
 have hs:=Hm hp
 have hn:=lK u
 rw [FI hk]
 obtain ⟨z,hR,hz,rfl⟩:=QG hp
 have hix:=ad9 hk
 have h:=XH (w:=W) (p:=p) (u:=u) (z:=z) (x:=pt u k) hp hs hu ht (hide hR) hz (by
  intro b c hbc
  rw [hix] at hbc
  obtain ⟨h1,h2,h3⟩:=qI (by omega) hbc
  omega)
 refine h.mono ?_
 rintro x w' ⟨hx,hb⟩
 refine ⟨?_,hb⟩
 rcases hx with ⟨_,ho⟩ | hx
 ·obtain ⟨Bs,ho⟩:=aa ho
  rw [hix] at ho
  exact absurd ho (hno Bs)
 ·rw [hx,hix]
  unfold fdV
  rw [if_pos (aaV hk)]
  cases pV (cZ z.1) (gu u) k with
  | none=>rfl
  | some be=>rfl
theorem Oi {p u:ByteArray} {P:Pt} (hp:bG p=.ok P) (hu:u.size<=60) (W:World) (ht:Hid (Lib.Utf8Tabs 4 5 W)) :
  Calls Tryz.prog 26 #[.string p,.string u,.int .i64 200] W fun e w'=>(e=.returned (.tuple #[.string ⟨#[]⟩,.int .i64 7])\/(e=.returned (.tuple #[.string (XF (cZ P) u),.int .i64 0])/\Hid (XE 200 (cZ P) (gu u))))/\Hid (Below W.heap.size W w'):=by
 obtain ⟨z,hR,hz,rfl⟩:=QG hp
 exact LH hp (Hm hp) hu ht (hide hR) hz
theorem Oj (x:Nat) (hx:x<100) (W:World):Calls Tryz.prog 24 #[.int .i64 (x:Int),.int .i64 1000] W fun e w'=>e=.returned (.int .i64 (x:Int))/\w'=W:=by
 have h:=XI (w:=W) (c:=(x:Int)) (n:=1000) (by omega) (by omega) (by omega) (by omega)
 have e:LM (x:Int) 1000=x:=by
  unfold LM
  rw [if_neg (by omega)]
  omega
 rw [e] at h
 exact h
theorem Tk (x:Nat) (hx:x<100) (W:World):Calls Tryz.prog 27 #[.int .i64 (x:Int)] W fun e w'=>e=.returned (.string (tx (Lib.decDigits x)))/\w'=W:=by
 rw [<-acJ hx]
 exact LF hx
theorem Ol {u:ByteArray} {W:World} {g cap b:Nat} (hu:u.size<=60) (hr:Hid (ad5 W g (pts u))) (hb:b<(pts u).length):Calls Tryz.prog 28 #[.slice (some ⟨g,0,none⟩) (pts u).length cap,.int .i64 (((pts u).getD b 0:Nat):Int)] W fun e w'=>e=.returned (.int .i64 (QF (pts u) (b+1)))/\w'=W:=by
 have hf:=qH u
 refine Og hr (by omega) hb rfl (hide fun k hk e=>?_)
 rw [FI hk,FI hb] at e
 rcases Nat.lt_trichotomy k b with q | q | q
 ·have:=LQ q hb;omega
 ·exact q
 ·have:=LQ q hk;omega
theorem XK {q:Tm} {u:ByteArray} {d:List (Nat×Nat)} {c b e:Nat} (hu:u.size<=60) (h:XB q (gu u) d c) (hf:pV q (gu u) c=some (b,e)):AfR (XB q (gu u)) (pts u) d b e:=by
 obtain ⟨h1,h2,h3⟩:=qI h.at_.le hf
 have hn:=lK u
 have hel:e<(pts u).length:=by omega
 refine ⟨by omega,hel,h2,ug u hu b,ug u hu e,h.next hf,fun hlt=>?_⟩
 rw [FI (by omega),FI hel]
 have:=LQ hlt hel
 omega
theorem Ho (l:List UInt8):(tx l).size=l.length:=by simp [ByteArray.size]
theorem ad_ {A:List Nat} (d:List (Nat×Nat)) (b e:Nat) (hA:∀ j,A.getD j 0<100) (hd:d.length<=100):∃ U1 U2 U3 U4:ByteArray,AfK (fun d=>tx (LC A d)) (fun x=>tx (Lib.decDigits x)) A d b e U1 U2 U3 U4:=by
 have h0:=QE hA d
 have h1:=t_ (hA b)
 have h2:=t_ (hA e)
 have s0:(tx (LC A d)).size<=600:=by rw [Ho];omega
 have s1:(tx (Lib.decDigits (A.getD b 0))).size<=2:=by rw [Ho];exact h1
 have s2:(tx (Lib.decDigits (A.getD e 0))).size<=2:=by rw [Ho];exact h2
 have su:(afU A d).size<=601:=by
  unfold afU
  split
  ·exact Nat.zero_le _
  ·rw [ByteArray.size_append]
   show _+1<=601
   omega
 refine ⟨afU A d,afU A d++tx (Lib.decDigits (A.getD b 0)),(afU A d++tx (Lib.decDigits (A.getD b 0)))++⟨#[45]⟩,tx (LC A (d++[(b,e)])),rfl,fun h=>?_,fun h W=>?_,fun h=>?_,fun W=>?_,fun W=>?_,fun W=>?_⟩
 ·rw [ByteArray.toList_eq]
  cases hl:(tx (LC A d)).data.toList with
  | nil=>exact absurd hl (by simpa using acH (A:=A) h)
  | cons _ _=>rfl
 ·have e:afU A d=tx (LC A d)++⟨#[44]⟩:=by unfold afU;rw [if_neg h]
  rw [e]
  exact run_string_add_sum W _ _ (by show _+1<=_;omega)
 ·subst h
  exact ⟨rfl,rfl⟩
 ·exact run_string_add_sum W _ _ (by omega)
 ·exact run_string_add_sum W _ _ (by rw [ByteArray.size_append];show _+1<=_;omega)
 ·rw [<-acI d (b,e)]
  exact run_string_add_sum W _ _ (by rw [ByteArray.size_append,ByteArray.size_append];show _+_+1+_<=_;omega)
set_option maxRecDepth 100000 in
set_option maxHeartbeats 40000000 in
theorem aav {w:World} {p t:ByteArray} (ht:Hid (Lib.Utf8Tabs 4 5 w)) (h:sO p=false) :
  Calls Tryz.prog 9 #[.string p,.string t] w fun e w'=>e=.returned (.bool true)/\Hid (Below w.heap.size w w'):=by
 have HA:=hide (FD ht)
 have HR1:=hide (fun (W:World) h=>FC (w:=W) (p:=p) h)
 rw [h] at HR1
 go_enter Tryz.func9,Tryz.ntmps9
 go_wp2_with (first
  | (go_at_call 16;refine (aa HA).mono ?_;clear HA;rintro x w1 ⟨rfl,B1⟩)
  | (go_at_call 17;refine (aa HR1 w1 (jE ht B1)).mono ?_;clear HR1;rintro x w2 ⟨rfl,hb2⟩;have B2:=jF B1 hb2;clear hb2))
 go_ret
 exact ⟨rfl,B2⟩
theorem Tn {w:World} {p t:ByteArray} {P:Pt} (hp:bG p=.ok P) (ht:Hid (Lib.Utf8Tabs 4 5 w)) (hr:sO p=true) :
  AfH w p t (xC t 30) (pts (xC t 30)) (XF (cZ P) (xC t 30)) (XE 200 (cZ P) (gu (xC t 30))) (XB (cZ P) (gu (xC t 30))) (fun d=>tx (LC (pts (xC t 30)) d)) (fun x=>tx (Lib.decDigits x)) (fun W g cap=>∃ B,W.ownsRow B 3 1 (.slice (some ⟨g,0,none⟩) (pts (xC t 30)).length cap) (pts (xC t 30)).length (ints (ay (pts (xC t 30))))):=by
 have hu:=Xo t 30
 generalize hU:xC t 30=u at *
 have hpos:=oG u
 have nR:=qH u
 have hcnt:=lK u
 refine ⟨by omega,FD ht,fun W hW=>?_,fun W=>?_,fun W hW=>?_,fun W W' g cap ho hb b hbl=>?_,fun W hW=>Oi hp (by omega) W (jE ht hW),XB.zero,rfl,?_,fun d c h=>?_,fun d c h hc=>?_,fun W d c hno hi hW hc=>?_,fun x hx W=>Oj x hx W,fun x hx W=>Tk x hx W⟩
 ·have h:=FC (w:=W) (p:=p) (jE ht hW)
  rw [hr] at h
  exact h
 ·rw [<-hU]
  exact aag (n:=30) (by omega)
 ·refine (N9 (w:=W) (t:=u) (by omega) (jE ht hW) (hide (aau (by omega)))).mono ?_
  rintro x w' ⟨g,cap,hx,hb,ho⟩
  exact ⟨g,cap,hx,hb,hide ⟨_,aa ho⟩⟩
 ·obtain ⟨B,ho⟩:=aa ho
  refine Ol (by omega) (hide fun k hk=>?_) hbl
  have h1:=nX ho hk
  rw [FI hk,<-vD hk]
  exact aC hb (World.block_lt_of_cell? _ _ h1) h1
 ·unfold QF
  rw [if_pos hpos]
  have:=FB u
  simp [List.getD,hpos,this]
 ·have:=h.at_.le
  exact ⟨by omega,h.len⟩
 ·unfold XF
  rw [h.done (Am (by omega))]
 ·have hle:=(aa hi).len
  refine ⟨pV (cZ P) (gu u) c,hide fun hf=>?_,hide fun b e hf=>⟨XK (by omega) (aa hi) hf,ad_ d b e (ug u (by omega)) (by omega)⟩,hide (XJ hp (by omega) hc (fun Bs=>aa hno Bs _ fun y hy=>(aa hi).at_.fr hy) W (jE ht hW))⟩
  unfold XF
  rw [(aa hi).done hf]
theorem XL {w:World} {p t:ByteArray} (ht:Hid (Lib.Utf8Tabs 4 5 w)) :
  Calls Tryz.prog 9 #[.string p,.string t] w fun e w'=>e=.returned (.bool true)/\Hid (Below w.heap.size w w'):=by
 cases h:sO p with
 | false=>exact aav ht h
 | true=>
  obtain ⟨P,hP⟩:=Xp h
  exact Tj (hide (Tn hP ht h))
end Go.Proofs.YtfolanohokflkaaGreatDoor
namespace Go.Proofs.YtfolanohokflkaaGreatDoor
open Go.ChangeShapes Go.WideShapes Go.ChangeAt Go.RowKit Go.ChangeMaps
theorem Tp {W:World} (h:laidMetH Tryz.prog Rows.allFoundRow.laid W):Lib.Utf8Tabs 4 5 W:=by
 have h1:laidMet Tryz.prog Rows.allFoundRow.laid W:=h
 exact utf8Tabs_of_reads Tryz.X9 Ya (Lib.laidMet.reads h1 (by rw [<-TE];simp [Rows.allFoundRow])) (Lib.laidMet.reads h1 (by rw [<-QJ];simp [Rows.allFoundRow]))
set_option maxRecDepth 100000 in
theorem contract (H:Type) (enc:TypeId×Value->H) (W:World) (base:Nat) (args:Array Value) (ds gs:List (DataW H)) (before:List MemPlace)
  (hval:∀ (j:Nat) t v,Tryz.f9.params[j]? = some t->args[j]? = some v->Value.okWide Tryz.prog W .any base t v)
  (hW:DataW.Whole enc Tryz.prog Tryz.f9.params.toList Rows.allFoundSpec.vars false W args.toList ds gs before) (hL:laidMetH Tryz.prog Rows.allFoundRow.laid W) :
  Calls Tryz.prog 9 args W fun e W'=>∃ v,e=.returned v/\Rows.allFoundSpec.post enc Tryz.prog Tryz.f9 false true false false W args v W':=by
 have hW':=hW
 obtain ⟨p,q,hA0,hV,rfl,hfz,hnd⟩:=hW
 have hA:DataW.TrodAll enc Tryz.prog W 0 (fun _=>true) true Tryz.f9.params.toList args.toList ds p:=hA0
 rw [Tryz.params9] at hA hval
 obtain ⟨v0,vs0,d0,ds0,p0,q0,hargs,rfl,rfl,h0,r0⟩:=trodAll_cons hA
 obtain ⟨v1,vs1,d1,ds1,p1,q1,aeN,rfl,rfl,h1,r1⟩:=trodAll_cons r0
 obtain ⟨rfl,rfl,rfl⟩:=trodAll_nil r1
 obtain rfl:args=#[v0,v1]:=by cases args;simp_all
 obtain ⟨rfl,rfl⟩:=trodVars_none hV
 obtain ⟨x,rfl,rfl,rfl,hx⟩:=open_string Tryz.underlying9 (hval 0 9 v0 rfl rfl) h0
 obtain ⟨y,rfl,rfl,rfl,hy⟩:=open_string Tryz.underlying9 (hval 1 9 v1 rfl rfl) h1
 clear hA0
 refine (XL (hide (Tp hL))).mono fun e W' ⟨he,hbw⟩=>?_
 subst he
 refine ⟨_,rfl,⟨_,_,_,[],[],[],hW',?_,?_,rfl,(aa hbw).frame _,fun h=>by cases h⟩⟩
 ·exact trodAll_cons_mk (shut_bool Tryz.underlying4 _) trodAll_mk0
 ·exact trodAll_cons_mk (shut_string Tryz.underlying9 hx) (trodAll_cons_mk (shut_string Tryz.underlying9 hy) trodAll_mk0)
noncomputable def yM (os:Os):World:=World.laidAll Tryz.prog os Rows.allFoundRow.laid
theorem XM (os:Os):laidMet Tryz.prog Rows.allFoundRow.laid ((yM os).forCall (fun _ _=>0) ⟨#[],#[.string ⟨#[]⟩,.string ⟨#[]⟩],[]⟩).memory:=
 laidMet_laidAll #[.string ⟨#[]⟩,.string ⟨#[]⟩] (by kernel_rfl) (by kernel_rfl)
theorem reads (os:Os) {H:Type} (enc:TypeId×Value->H):∃ places,DataW.whole enc Tryz.prog ((yM os).forCall (fun _ _=>0) ⟨#[],#[.string ⟨#[]⟩,.string ⟨#[]⟩],[]⟩).memory Tryz.f9.params.toList Rows.allFoundSpec.vars false #[Value.string ⟨#[]⟩,Value.string ⟨#[]⟩].toList 8=some ([.lit (.string []),.lit (.string [])],[],places):=
 ⟨[],by kernel_rfl⟩
set_option maxRecDepth 100000 in
theorem lifted (os:Os) (started:os.Started) (H:Type) (enc:TypeId×Value->H) (F:Stop.Interp) :
  ReturnsInHanded {} Tryz.checked os 9 .any ((OpenSpec.ofChange Rows.allFoundSpec).preRow enc Tryz.prog Tryz.f9 Rows.allFoundRow.domain false Rows.allFoundRow.laid) (((OpenSpec.ofChange Rows.allFoundSpec).at F).post enc Tryz.prog Tryz.f9 false true false false):=by
 obtain ⟨places,hx⟩:=reads os enc
 refine returnsInHanded_of_row (C:=Tryz.checked) (s:=OpenSpec.ofChange Rows.allFoundSpec) own started (by kernel_rfl) Tryz.func9
  (witness_row_at (enc:=enc) (C:=Tryz.checked) false (yM os) #[.string ⟨#[]⟩,.string ⟨#[]⟩] (World.laidAll_os _ _ _) (by kernel_rfl) (by kernel_rfl) (by kernel_rfl)
   (OpenSpec.preRow_of_cond 8 hx (by kernel_rfl) (fun k hk=>by cases hk) (by kernel_rfl) (XM os))) ?_
 intro W base args ds gs before hval hW _ _ _ hL _ _
 exact contract H enc W base args ds gs before hval hW hL
set_option maxRecDepth 100000 in
theorem said:Rows.AllFoundSaid:=
 OpenClaim.holds_of_cond 9 Tryz.f9 rfl rfl rfl rfl rfl rfl rfl ⟨rfl,rfl,rfl,rfl,rfl⟩ rfl rfl rfl rfl rfl (by kernel_rfl) Tryz.func9 (by exact aea)
  (of_decide_eq_true (by kernel_rfl)) (by unfold Func.isWrapper;first | (rw [if_pos (by decide +kernel)];kernel_rfl) | (rw [if_neg (by decide +kernel)];exact ⟨rfl,rfl⟩))
  (fun os started H enc _ F=>by rw [OpenClaim.pre_eq_preRow];exact lifted os started H enc F)
theorem allFound_card:Rows.AllFoundCardSaid:=
 Claim7.holds_tied_plain_at .later [] _ _ _ _ said (fun _ h=>by cases h) Yb (fun _ h=>by cases h) allFound_row_tie rfl ⟨rfl,rfl⟩ QO rfl plain QP
#print axioms allFound_card
end Go.Proofs.YtfolanohokflkaaGreatDoor
