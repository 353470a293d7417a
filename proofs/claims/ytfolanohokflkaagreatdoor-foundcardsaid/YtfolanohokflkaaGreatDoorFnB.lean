import Derived.Test.YtfolanohokflkaaGreatDoorSgD
import Derived.Test.YtfolanohokflkaaGreatDoorBgC
import Derived.Test.YtfolanohokflkaaGreatDoorPrI
import Derived.Test.YtfolanohokflkaaGreatDoorProC
import Derived.WalkKit
import Derived.WalkSpells
import Derived.WalkLawsBesides
import Derived.WalkMore
import Derived.Deep.QuietTactic
import Derived.BigQuiet
import Derived.Test.YtfolanohokflkaaGreatDoorBlW
import Derived.Laws.OwnMore
import Derived.Deep.RegionHeld3
namespace Go.Proofs.YtfolanohokflkaaGreatDoor
open Go.RowKit
set_option maxRecDepth 100000 in
set_option maxHeartbeats 4000000 in
theorem D7 {w:World} {s u:ByteArray} {B e:Int} (hu:u.size<=60) (Wm:Hid (Calls Tryz.prog 55 #[.string s,.int .i64 B] (w.alloc (aD nd0)) fun x w'=>x=.returned (.tuple #[gD nd0,.int .i64 e])/\Hid (Below (w.alloc (aD nd0)).heap.size (w.alloc (aD nd0)) w'))) :
  Calls Tryz.prog 38 #[.string s,.string u,.int .i64 B] w fun x w'=>x=.returned (.tuple #[gD nd0,.int .i64 e])/\Hid (Below w.heap.size w w'):=by
 have hat:=aA.new w nd0
 have HAT:=hide hat
 have hsz:w.heap.size<(w.alloc (aD nd0)).heap.size:=by simp
 have HA:Hid (Below w.heap.size w (w.alloc (aD nd0))):=(Below.refl _ _).alloc (Nat.le_refl _) _
 have d1:decide ((60:Int)<(u.size:Int))=false:=by simp;omega
 clear hat
 go_enter Tryz.func38,Tryz.ntmps38
 go_wp2_with (go_at_call 55;refine (aa Wm).mono ?_;clear Wm;rintro x w2 ⟨hx,HB2⟩;rw [gD] at hx;subst hx;have si:Hid (aA w2 w.heap.size nd0):=((aa HB2).block _ hsz).trans (aa HAT);have hs2:=(aa HB2).size;obtain ⟨c0,c1,c2,c3,c4,c5,c6⟩:=aA.cells (aa si);have cf:=aA.fz (aa si))
 have HB3:Hid (Below w.heap.size w w2):=(aa HA).trans ((aa HB2).mono (by omega))
 clear c0 c1 c2 c3 c4 c5 c6 cf
 show bodyPost _ _ _ _ _ (bI w2 w.heap.size nd0)
 refine ui (n:=nd0) rfl rfl rfl (hide (aA.set (aa si))) ⟨rfl,?_⟩
 have b:=aa HB3
 exact Below.setCell (Below.setCell (Below.setCell (Below.setCell (Below.setCell (Below.setCell (Below.setCell b (Nat.le_refl _) _) (Nat.le_refl _) _) (Nat.le_refl _) _) (Nat.le_refl _) _) (Nat.le_refl _) _) (Nat.le_refl _) _) (Nat.le_refl _) _
set_option maxRecDepth 100000 in
set_option maxHeartbeats 4000000 in
theorem Sv {w:World} {p u:ByteArray} {B e:Int} (he:e≠0) (O6:Hid (Calls Tryz.prog 38 #[.string p,.string u,.int .i64 B] ((w.alloc (.cells #[.string u] 9)).alloc (.cells #[.int .i64 B] 3)) fun x w'=>x=.returned (.tuple #[gD nd0,.int .i64 e])/\Hid (Below ((w.alloc (.cells #[.string u] 9)).alloc (.cells #[.int .i64 B] 3)).heap.size ((w.alloc (.cells #[.string u] 9)).alloc (.cells #[.int .i64 B] 3)) w'))) :
  Calls Tryz.prog 37 #[.string p,.string u,.int .i64 B] w fun x w'=>x=.returned (.tuple #[.bool false,.int .i64 e])/\Hid (Below w.heap.size w w'):=by
 have s1:(w.alloc (.cells #[.string u] 9)).heap.size=w.heap.size+1:=by simp
 have H9:Hid (Below w.heap.size w ((w.alloc (.cells #[.string u] 9)).alloc (.cells #[.int .i64 B] 3))):=((Below.refl _ _).alloc (Nat.le_refl _) _).alloc (by rw [s1];omega) _
 have he':(e==0)=false:=by simpa using he
 clear s1
 go_enter Tryz.func37,Tryz.ntmps37
 go_wp2_with (go_at_call 38;refine (aa O6).mono ?_;clear O6;rintro x w2 ⟨hx,HB2⟩;rw [gD] at hx;subst hx)
 go_ret2
 have b:=(aa H9).trans ((aa HB2).mono (aa H9).size)
 exact ⟨rfl,b.alloc b.size _⟩
theorem Dn {w:World} {p u:ByteArray} {e:Int} (he:e≠0) (hu:u.size<=60) (hr:∀ W:World,Hid (Lib.Utf8Tabs 4 5 W)->Calls Tryz.prog 65 #[.string p] W fun x w'=>∃ m q,x=.returned (.tuple #[gD m,.agg #[.int .i64 e,.int .i64 q]])/\Hid (Below W.heap.size W w')) (ht:Hid (Lib.Utf8Tabs 4 5 w)) :
  Calls Tryz.prog 37 #[.string p,.string u,.int .i64 200] w fun x w'=>x=.returned (.tuple #[.bool false,.int .i64 e])/\Hid (Below w.heap.size w w'):=by
 have tb:∀ {W:World} (o:Obj),Hid (Lib.Utf8Tabs 4 5 W)->Hid (Lib.Utf8Tabs 4 5 (W.alloc o)):=fun {W} o h=>by
  have hlt:=lL (aa h)
  exact iE (aa h) (Below.heap_alloc W _ 4 (by omega)) (Below.heap_alloc W _ 5 (by omega))
 exact Sv he (hide (D7 hu (hide (Sr he (hide (hr _ (tb _ (tb _ (tb _ (tb _ ht))))))))))
def vk (p u:ByteArray):Bool×Int:=match bP p with
 | .error x=>(false,x.1)
 | .ok P=>(WC P (kS u),0)
theorem SA {w:World} {p u:ByteArray} (hu:u.size<=60) (ht:Hid (Lib.Utf8Tabs 4 5 w)) :
  Calls Tryz.prog 37 #[.string p,.string u,.int .i64 200] w fun x w'=>x=.returned (.tuple #[.bool (vk p u).1,.int .i64 (vk p u).2])/\Hid (Below w.heap.size w w'):=by
 unfold vk
 by_cases hl:60<p.size
 ·have e:bP p=.error (1,0):=by rw [bP,if_pos hl]
  rw [e]
  exact Dn (e:=1) (by decide) hu (fun W hW=>(Fx (w:=W) (by omega)).mono fun x w' h=>⟨nd0,0,h.1,h.2⟩) ht
 ·have e:=sj p hl
  cases hR:j5 p with
  | error y=>
   rw [hR] at e
   have hn:=Qh e
   rw [e]
   exact Dn hn hu (fun W hW=>(y5 (w:=W) (by omega) hW (hide hR)).mono fun x w' ⟨m,a,b⟩=>⟨m,y.2,a,b⟩) ht
  | ok z=>
   rw [hR] at e
   dsimp only at e
   by_cases hz:60<z.2
   ·rw [if_pos hz] at e
    rw [e]
    refine Dn (e:=5) (by decide) hu (fun W hW=>?_) ht
    have h:=u7 (w:=W) (by omega) hW (hide hR)
    rw [if_pos hz] at h
    exact h.mono fun x w' ⟨m,a,b,_⟩=>⟨m,0,a,b⟩
   ·rw [if_neg hz] at e
    rw [e]
    have hB:=Ab u
    exact NG e (by omega) hu ht (hide hR) hz (by omega) (by omega)
end Go.Proofs.YtfolanohokflkaaGreatDoor
namespace Go.Proofs.YtfolanohokflkaaGreatDoor
open Go.RowKit
def isA (p u:ByteArray):Int:=if (vk p u).2=0 then (if (vk p u).1=true then 1 else 0) else -1
set_option maxRecDepth 100000 in
set_option maxHeartbeats 4000000 in
theorem Hm {w:World} {p u:ByteArray} (hu:u.size<=60) (ht:Hid (Lib.Utf8Tabs 4 5 w)) :
  Calls Tryz.prog 19 #[.string p,.string u] w fun x w'=>x=.returned (.int .i64 (isA p u))/\Hid (Below w.heap.size w w'):=by
 have HM:=hide (SA (p:=p) hu ht)
 unfold isA
 generalize vk p u=be at *
 obtain ⟨b,e⟩:=be
 clear ht hu
 by_cases he:e=0
 ·subst he
  cases b
  ·go_enter Tryz.func19,Tryz.ntmps19
   go_wp2_with (go_at_call 37;refine (aa HM).mono ?_;clear HM;rintro x w2 ⟨rfl,HB2⟩)
   go_ret
   exact ⟨rfl,HB2⟩
  ·go_enter Tryz.func19,Tryz.ntmps19
   go_wp2_with (go_at_call 37;refine (aa HM).mono ?_;clear HM;rintro x w2 ⟨rfl,HB2⟩)
   go_ret
   exact ⟨rfl,HB2⟩
 ·have he':(e==0)=false:=by simpa using he
  dsimp only at HM ⊢
  rw [if_neg he]
  clear he
  go_enter Tryz.func19,Tryz.ntmps19
  go_wp2_with (go_at_call 37;refine (aa HM).mono ?_;clear HM;rintro x w2 ⟨rfl,HB2⟩)
  go_ret
  exact ⟨rfl,HB2⟩
def sD (p:ByteArray):Bool:=match bP p with
 | .error _=>false
 | .ok _=>true
set_option maxRecDepth 100000 in
set_option maxHeartbeats 4000000 in
theorem FJ {w:World} {p:ByteArray} (ht:Hid (Lib.Utf8Tabs 4 5 w)) :
  Calls Tryz.prog 17 #[.string p] w fun x w'=>x=.returned (.bool (sD p))/\Hid (Below w.heap.size w w'):=by
 have HM:=hide (Sc w p ht)
 have e:sD p=((xw p).1==0):=by
  rw [BG]
  unfold sD
  cases h:bP p with
  | error x=>have:=Qh h;simpa [Ub] using this
  | ok q=>rfl
 rw [e]
 generalize xw p=be at *
 obtain ⟨a,b⟩:=be
 clear ht e
 dsimp only at HM ⊢
 go_enter Tryz.func17,Tryz.ntmps17
 go_wp2_with (go_at_call 36;refine (aa HM).mono ?_;clear HM;rintro x w2 ⟨rfl,HB2⟩)
 go_ret
 exact ⟨rfl,HB2⟩
end Go.Proofs.YtfolanohokflkaaGreatDoor
namespace Go.Proofs.YtfolanohokflkaaGreatDoor
open Go.RowKit
def WS (s:ByteArray) (n:Nat):ByteArray:=if n<s.size then s.extract 0 n else s
theorem WT (s:ByteArray) (n:Nat):(WS s n).size<=n:=by
 unfold WS
 split
 ·simp [ByteArray.size_extract];omega
 ·omega
set_option maxRecDepth 100000 in
set_option maxHeartbeats 4000000 in
theorem ZH {w:World} {s:ByteArray} {n:Nat} (hn:n<=60) :
  Calls Tryz.prog 18 #[.string s,.int .i64 (n:Int)] w fun x w'=>x=.returned (.string (WS s n))/\w'=w:=by
 unfold WS
 by_cases h:n<s.size
 ·rw [if_pos h]
  have h':(n:Int)<(s.size:Int):=by omega
  go_enter Tryz.func18,Tryz.ntmps18
  go_wp2_with fail
  go_ret
  exact ⟨by simp,rfl⟩
 ·rw [if_neg h]
  have h':¬ (n:Int)<(s.size:Int):=by omega
  go_enter Tryz.func18,Tryz.ntmps18
  go_wp2_with fail
  go_ret
  exact ⟨rfl,rfl⟩
end Go.Proofs.YtfolanohokflkaaGreatDoor
namespace Go.Proofs.YtfolanohokflkaaGreatDoor
open Go.RowKit
theorem aw1:isA ⟨#[97,42,98]⟩ ⟨#[97,97,98]⟩=1:=by decide +kernel
theorem aw2:isA ⟨#[126,40,97,42,41]⟩ ⟨#[97,97,98]⟩=1:=by decide +kernel
theorem aw3:isA ⟨#[46,123,50,125]⟩ ⟨#[195,169]⟩=0:=by decide +kernel
set_option maxRecDepth 100000 in
set_option maxHeartbeats 4000000 in
theorem FK {w:World} (ht:Hid (Lib.Utf8Tabs 4 5 w)) :
  Calls Tryz.prog 16 #[] w fun x w'=>x=.returned (.bool true)/\Hid (Below w.heap.size w w'):=by
 have H1:=hide (fun (W:World) h=>Hm (w:=W) (p:=⟨#[97,42,98]⟩) (u:=⟨#[97,97,98]⟩) (by decide) h)
 have H2:=hide (fun (W:World) h=>Hm (w:=W) (p:=⟨#[126,40,97,42,41]⟩) (u:=⟨#[97,97,98]⟩) (by decide) h)
 have H3:=hide (fun (W:World) h=>Hm (w:=W) (p:=⟨#[46,123,50,125]⟩) (u:=⟨#[195,169]⟩) (by decide) h)
 rw [aw1] at H1
 rw [aw2] at H2
 rw [aw3] at H3
 go_enter Tryz.func16,Tryz.ntmps16
 go_wp2_with (first
  | (have H1':=H1;clear H1;go_at_call 19;refine (aa H1' w ht).mono ?_;clear H1';rintro x w1 ⟨rfl,B1⟩)
  | (have H2':=H2;clear H2;go_at_call 19;refine (aa H2' w1 (ak ht B1)).mono ?_;clear H2';rintro x w2 ⟨rfl,hb2⟩;have B2:=CX B1 hb2;clear hb2)
  | (have H3':=H3;clear H3;go_at_call 19;refine (aa H3' w2 (ak ht B2)).mono ?_;clear H3';rintro x w3 ⟨rfl,hb3⟩;have B3:=CX B2 hb3;clear hb3))
 go_ret
 exact ⟨rfl,B3⟩
end Go.Proofs.YtfolanohokflkaaGreatDoor
namespace Go.Proofs.YtfolanohokflkaaGreatDoor
open Go.RowKit
theorem adf {p u:ByteArray} {P:Pt} (h:bP p=.ok P):isA p u=if WC P (kS u)=true then 1 else 0:=by
 unfold isA vk
 rw [h]
 rfl
section
variable {p q S u:ByteArray} {P Q:Pt}
end
theorem WU {p:ByteArray} (h:sD p=true):∃ P,bP p=.ok P:=by
 unfold sD at h
 cases e:bP p with
 | error x=>rw [e] at h;cases h
 | ok P=>exact ⟨P,rfl⟩
theorem ZI {p:ByteArray} {P:Pt} (h:bP p=.ok P):p.size<=60:=by
 unfold bP at h
 split at h
 ·cases h
 ·omega
end Go.Proofs.YtfolanohokflkaaGreatDoor
namespace Go.Proofs.YtfolanohokflkaaGreatDoor
open Go.RowKit
theorem Lr {q:Tm} {L:List Int} {b e:Nat}:∀ k,G6 q L b k=some e->∃ j,j<k/\e=b+j/\qL q L b j=true/\∀ i,j<i->i<k->qL q L b i=false
 | 0,h=>by cases h
 | k+1,h=>by
  rw [G6] at h
  by_cases hw:qL q L b k=true
  ·rw [if_pos hw] at h
   cases h
   exact ⟨k,by omega,rfl,hw,fun i h1 h2=>by omega⟩
  ·rw [if_neg hw] at h
   obtain ⟨j,h1,h2,h3,h4⟩:=Lr k h
   refine ⟨j,by omega,h2,h3,fun i hi1 hi2=>?_⟩
   by_cases e:i=k
   ·subst e;simpa using hw
   ·exact h4 i hi1 (by omega)
theorem Dp {q:Tm} {L:List Int} {b:Nat}:∀ k,G6 q L b k=none->∀ i,i<k->qL q L b i=false
 | 0,_,i,hi=>by omega
 | k+1,h,i,hi=>by
  rw [G6] at h
  by_cases hw:qL q L b k=true
  ·rw [if_pos hw] at h;cases h
  ·rw [if_neg hw] at h
   by_cases e:i=k
   ·subst e;simpa using hw
   ·exact Dp k h i (by omega)
def stW (q:Tm) (L:List Int) (b e:Nat):Bool:=cB (aJ q ((L.take e).drop b))
theorem Ho {q:Tm} {L:List Int} {b e:Nat}:stW q L b e=qL q L b (e - b):=by
 unfold stW qL
 rw [List.drop_take]
theorem Qk {q:Tm} {L:List Int}:∀ (f:Nat) {x b e:Nat},frS q L f x=some (b,e)->f+x=L.length+1->x<=b/\b<=e/\e<=L.length/\stW q L b e=true/\∀ c d,x<=c->c<=d->d<=L.length->(c<b\/(c=b/\e<d))->stW q L c d=false
 | 0,x,b,e,h,_=>by cases h
 | f+1,x,b,e,h,hf=>by
  rw [frS] at h
  cases hl:VP q L x with
  | some e'=>
   rw [hl] at h
   cases h
   obtain ⟨j,h1,h2,h3,h4⟩:=Lr _ hl
   subst h2
   refine ⟨Nat.le_refl _,by omega,by omega,?_,fun c d hc hcd hd hb=>?_⟩
   ·rw [Ho,Nat.add_sub_cancel_left];exact h3
   ·rcases hb with hb | ⟨rfl,hb⟩
    ·omega
    ·rw [Ho]
     exact h4 _ (by omega) (by omega)
  | none=>
   rw [hl] at h
   obtain ⟨a1,a2,a3,a4,a5⟩:=Qk f h (by omega)
   refine ⟨by omega,a2,a3,a4,fun c d hc hcd hd hb=>?_⟩
   by_cases e1:c=x
   ·subst e1
    rw [Ho]
    exact Dp _ hl _ (by omega)
   ·exact a5 c d (by omega) hcd hd hb
theorem Ql {q:Tm} {L:List Int}:∀ (f:Nat) {x:Nat},frS q L f x=none->f+x=L.length+1->∀ c d,x<=c->c<=d->d<=L.length->stW q L c d=false
 | 0,x,_,hf,c,d,h1,h2,h3=>by omega
 | f+1,x,h,hf,c,d,h1,h2,h3=>by
  rw [frS] at h
  cases hl:VP q L x with
  | some e'=>rw [hl] at h;cases h
  | none=>
   rw [hl] at h
   by_cases e1:c=x
   ·subst e1
    rw [Ho]
    exact Dp _ hl _ (by omega)
   ·exact Ql f h (by omega) c d (by omega) h2 h3
def y9 (c:Int) (n:Nat):Nat:=((if c<0 then -(c+1) else c) % (n:Int)).toNat
theorem Dq (c:Int) {n:Nat} (h:0<n):y9 c n<n:=by
 unfold y9
 have h1:=Int.emod_lt_of_pos (if c<0 then -(c+1) else c) (show (0:Int)<n by omega)
 have h2:=Int.emod_nonneg (if c<0 then -(c+1) else c) (show (n:Int)≠0 by omega)
 omega
theorem SB (c:Int) {n:Nat} (h:0<n):((y9 c n:Nat):Int)=(if c<0 then -(c+1) else c) % (n:Int):=by
 unfold y9
 have h2:=Int.emod_nonneg (if c<0 then -(c+1) else c) (show (n:Int)≠0 by omega)
 omega
set_option maxRecDepth 100000 in
set_option maxHeartbeats 4000000 in
theorem Dr {w:World} {c:Int} {n:Nat} (hc0:-9223372036854775808<=c) (hc1:c<=9223372036854775807) (hn:0<n) (hn1:n<=1000) :
  Calls Tryz.prog 24 #[.int .i64 c,.int .i64 (n:Int)] w fun x w'=>x=.returned (.int .i64 ((y9 c n:Nat):Int))/\w'=w:=by
 rw [SB c hn]
 have hz:((n:Int)==0)=false:=by simp;omega
 by_cases h:c<0
 ·rw [if_pos h]
  go_enter Tryz.func24,Tryz.ntmps24
  go_wp2_with fail
  go_ret
  refine ⟨?_,rfl⟩
  have e:-((c+1).tmod (n:Int))=-(c+1) % (n:Int):=by rw [<-Int.neg_tmod,Int.tmod_eq_emod_of_nonneg (by omega)]
  exact congrArg (fun v=>Ending.returned (.int .i64 v)) e
 ·rw [if_neg h]
  go_enter Tryz.func24,Tryz.ntmps24
  go_wp2_with fail
  go_ret
  exact ⟨rfl,rfl⟩
end Go.Proofs.YtfolanohokflkaaGreatDoor
namespace Go.Proofs.YtfolanohokflkaaGreatDoor
open Go.RowKit
theorem sF {t:ByteArray} {k:Nat} (h:k<(pts t).length):(pts t)[k]=pt t k:=by
 have e:=Zy t k
 rw [<-e]
 simp [List.getD,h]
theorem Hq {t:ByteArray} {i j:Nat} (hij:i<=j) (hj:j<(pts t).length):pt t i<=pt t j:=by
 by_cases e:i=j
 ·subst e;exact Nat.le_refl _
 ·have h:=Af t
  rw [List.pairwise_iff_getElem] at h
  have:=h i j (by omega) hj (by omega)
  rw [sF (by omega),sF hj] at this
  omega
theorem WV {t:ByteArray} {j:Nat} (hj:j<(pts t).length):pt t j<=t.size:=aal (by rw [xc] at hj;omega)
def WW (P:Pt) (t:ByteArray) (i j:Nat):Bool:=WC P (((kS t).take j).drop i)
theorem WX {p t:ByteArray} {P:Pt} (hp:bP p=.ok P) {i j:Nat} (hij:i<=j) (hj:j<(pts t).length):isA p (t.extract (pt t i) (pt t j))=if WW P t i j=true then 1 else 0:=by
 rw [adf hp,Dk,NI hij (by rw [xc] at hj;omega),<-Dk]
 rfl
end Go.Proofs.YtfolanohokflkaaGreatDoor
namespace Go.Proofs.YtfolanohokflkaaGreatDoor
open Go.RowKit
theorem Dt {t:ByteArray} {i j:Nat} (hij:i<j) (hj:j<(pts t).length):pt t i<pt t j:=by
 have h:=Af t
 rw [List.pairwise_iff_getElem] at h
 have:=h i j (by omega) hj hij
 rw [sF (by omega),sF hj] at this
 exact this
theorem aam {t:ByteArray} {k:Nat} (h:k<(pts t).length):pt t k∈pts t:=by
 rw [<-sF h]
 exact List.getElem_mem h
theorem adg {t:ByteArray} {k:Nat} (h:k<(pts t).length):Lj t (pt t k)=k:=by
 obtain ⟨hl,he⟩:=NM (aam h)
 rw [sF hl] at he
 rcases Nat.lt_trichotomy (Lj t (pt t k)) k with q | q | q
 ·have:=Dt q h;omega
 ·exact q
 ·have:=Dt q hl;omega
def fnV (t:ByteArray):Option (Nat×Nat)->Value
 | none=>.tuple #[.int .i64 (-1),.int .i64 (-1),.int .i64 0]
 | some (b,e)=>.tuple #[.int .i64 ((pt t b:Nat):Int),.int .i64 ((pt t e:Nat):Int),.int .i64 0]
section
variable {P:Pt} {t:ByteArray} {k:Nat}
theorem Hr {b e:Nat} (hk:k<(pts t).length) (h:zB (dE P) (kS t) k=some (b,e)):k<=b/\b<=e/\e<(pts t).length/\WW P t b e=true/\∀ c d,c<=d->d<(pts t).length->WW P t c d=true->¬ (pt t k<=pt t c/\(pt t c<pt t b\/(pt t c=pt t b/\pt t e<pt t d))):=by
 have hn:=pR t
 obtain ⟨a1,a2,a3,a4,a5⟩:=Qk _ h (by omega)
 refine ⟨a1,a2,by omega,a4,fun c d hcd hd hw=>?_⟩
 rintro ⟨h1,h2⟩
 have g1:k<=c:=by
  rcases Nat.lt_or_ge c k with q | q
  ·have:=Dt q hk;omega
  ·exact q
 have g2:c<b\/(c=b/\e<d):=by
  rcases h2 with h2 | ⟨h2,h3⟩
  ·left
   rcases Nat.lt_or_ge c b with q | q
   ·exact q
   ·have:=Hq q (by omega:c<(pts t).length);omega
  ·right
   refine ⟨?_,?_⟩
   ·rcases Nat.lt_trichotomy c b with q | q | q
    ·have:=Dt q (by omega:b<(pts t).length);omega
    ·exact q
    ·have:=Dt q (by omega:c<(pts t).length);omega
   ·rcases Nat.lt_or_ge e d with q | q
    ·exact q
    ·have:=Hq q (by omega:e<(pts t).length);omega
 have:=a5 c d g1 hcd (by omega) g2
 have e2:stW (dE P) (kS t) c d=WW P t c d:=rfl
 rw [e2,hw] at this
 cases this
theorem ZJ (hk:k<(pts t).length) (h:zB (dE P) (kS t) k=none) {c d:Nat} (hcd:c<=d) (hd:d<(pts t).length) (hw:WW P t c d=true):pt t c<pt t k:=by
 have hn:=pR t
 refine Classical.byContradiction fun q=>?_
 have g1:k<=c:=by
  rcases Nat.lt_or_ge c k with x | x
  ·exact absurd (Dt x hk) q
  ·exact x
 have:=Ql _ h (by omega) c d g1 hcd (by omega)
 have e2:stW (dE P) (kS t) c d=WW P t c d:=rfl
 rw [e2,hw] at this
 cases this
end
theorem ZK {p u:ByteArray} {P:Pt} (hp:bP p=.ok P) (hu:u.size<=60) {k:Nat} (hk:k<(pts u).length) (W:World) (ht:Hid (Lib.Utf8Tabs 4 5 W)) :
  Calls Tryz.prog 25 #[.string p,.string u,.int .i64 ((pt u k:Nat):Int),.int .i64 200] W fun x w'=>(x=.returned (.tuple #[.int .i64 0,.int .i64 0,.int .i64 7])\/x=.returned (fnV u (zB (dE P) (kS u) k)))/\Hid (Below W.heap.size W w'):=by
 have hs:=ZI hp
 have e:=sj p (by omega)
 cases hR:j5 p with
 | error y=>rw [hR,hp] at e;cases e
 | ok z=>
  rw [hR,hp] at e
  dsimp only at e
  by_cases hz:60<z.2
  ·rw [if_pos hz] at e;cases e
  ·rw [if_neg hz] at e
   cases e
   have hix:=adg hk
   have h:=FH (w:=W) (p:=p) (u:=u) (z:=z) (x:=pt u k) hp hs hu ht (hide hR) hz (by
    intro b c hbc
    rw [hix] at hbc
    obtain ⟨h1,h2,h3,_⟩:=Hr hk hbc
    omega)
   refine h.mono ?_
   rintro x w' ⟨hx,hb⟩
   refine ⟨?_,hb⟩
   rcases hx with ⟨hx,_⟩ | hx
   ·exact .inl hx
   ·right
    rw [hx,hix]
    unfold fdV
    rw [if_pos (aam hk)]
    cases hf:zB (dE z.1) (kS u) k with
    | none=>rfl
    | some be=>
     obtain ⟨b,e⟩:=be
     obtain ⟨h1,h2,h3,_⟩:=Hr hk hf
     have g:∀ j,j<(pts u).length->(pts u).getD j 0=pt u j:=fun j hj=>by
      rw [<-sF hj];simp [List.getD,hj]
     simp only [fnV,g b (by omega),g e h3]
end Go.Proofs.YtfolanohokflkaaGreatDoor
