import Derived.Test.YtfolanohokflkaaGreatDoorFnB
namespace Go.Proofs.YtfolanohokflkaaGreatDoor
open Go.RowKit
set_option maxRecDepth 100000 in
set_option maxHeartbeats 40000000 in
theorem WZ {w:World} {p t u:ByteArray} {x y z:Int} {kx ky kz m1 m2 b e:Nat} {f:Nat->Nat} {ov:Int} (ht:Hid (Lib.Utf8Tabs 4 5 w))
  (hkx:kx<(pts u).length) (D8:ky<(pts u).length) (hkz:kz<(pts u).length)
  (HC:Hid (∀ W:World,Calls Tryz.prog 18 #[.string t,.int .i64 30] W fun x w'=>x=.returned (.string u)/\w'=W))
  (HA:Hid (Calls Tryz.prog 16 #[] w fun x w'=>x=.returned (.bool true)/\Hid (Below w.heap.size w w')))
  (HR1:Hid (∀ W:World,Hid (Lib.Utf8Tabs 4 5 W)->Calls Tryz.prog 17 #[.string p] W fun x w'=>x=.returned (.bool true)/\Hid (Below W.heap.size W w')))
  (kR:Hid (∀ W:World,Hid (Lib.Utf8Tabs 4 5 W)->Calls Tryz.prog 21 #[.string u] W fun e w'=>∃ g cap,e=.returned (.tuple #[.slice (some ⟨g,0,none⟩) (pts u).length cap,.bool true])/\Hid (Below W.heap.size W w')/\Hid (w'.ownsRow W.heap.size 3 1 (.slice (some ⟨g,0,none⟩) (pts u).length cap) (pts u).length (ints (az (pts u))))))
  (xn:Hid (∀ W:World,Calls Tryz.prog 24 #[.int .i64 x,.int .i64 ((pts u).length:Int)] W fun x w'=>x=.returned (.int .i64 (kx:Int))/\w'=W))
  (xq:Hid (∀ W:World,Calls Tryz.prog 24 #[.int .i64 y,.int .i64 ((pts u).length:Int)] W fun x w'=>x=.returned (.int .i64 (ky:Int))/\w'=W))
  (xu:Hid (∀ W:World,Calls Tryz.prog 24 #[.int .i64 z,.int .i64 ((pts u).length:Int)] W fun x w'=>x=.returned (.int .i64 (kz:Int))/\w'=W))
  (tT:Hid (∀ W:World,Hid (Lib.Utf8Tabs 4 5 W)->Calls Tryz.prog 25 #[.string p,.string u,.int .i64 ((f kx:Nat):Int),.int .i64 200] W fun x w'=>(x=.returned (.tuple #[.int .i64 0,.int .i64 0,.int .i64 7])\/x=.returned (.tuple #[.int .i64 ((f b:Nat):Int),.int .i64 ((f e:Nat):Int),.int .i64 0]))/\Hid (Below W.heap.size W w')))
  (HRW:Hid (∀ (w5 W:World) (B g cap k:Nat),Hid (w5.ownsRow B 3 1 (.slice (some ⟨g,0,none⟩) (pts u).length cap) (pts u).length (ints (az (pts u))))->Hid (Below w5.heap.size w5 W)->k<(pts u).length->W.cell? ⟨g,k,none⟩=some (.int .i64 ((f k:Nat):Int))))
  (tF:Hid (∀ W:World,Hid (Lib.Utf8Tabs 4 5 W)->Calls Tryz.prog 22 #[.string u,.int .i64 ((f m1:Nat):Int)] W fun e w'=>(∃ b,e=.returned (.bool b))/\Hid (Below W.heap.size W w')))
  (pV:Hid (∀ W:World,Hid (Lib.Utf8Tabs 4 5 W)->Calls Tryz.prog 22 #[.string u,.int .i64 ((f m2:Nat):Int)] W fun e w'=>(∃ b,e=.returned (.bool b))/\Hid (Below W.heap.size W w')))
  (Aa:Hid (∀ W:World,Hid (Lib.Utf8Tabs 4 5 W)->Calls Tryz.prog 22 #[.string u,.int .i64 ((f b:Nat):Int)] W fun e w'=>(∃ b,e=.returned (.bool b))/\Hid (Below W.heap.size W w')))
  (FL:Hid (∀ W:World,Hid (Lib.Utf8Tabs 4 5 W)->Calls Tryz.prog 22 #[.string u,.int .i64 ((f e:Nat):Int)] W fun e w'=>(∃ b,e=.returned (.bool b))/\Hid (Below W.heap.size W w')))
  (mg:Hid (∀ W:World,Hid (Lib.Utf8Tabs 4 5 W)->Calls Tryz.prog 19 #[.string p,.string (u.extract (f m1) (f m2))] W fun x w'=>x=.returned (.int .i64 ov)/\Hid (Below W.heap.size W w')))
  (uk:Hid (∀ W:World,Hid (Lib.Utf8Tabs 4 5 W)->Calls Tryz.prog 19 #[.string p,.string (u.extract (f b) (f e))] W fun x w'=>x=.returned (.int .i64 1)/\Hid (Below W.heap.size W w')))
  (D9:((f m1:Nat):Int)<=((f m2:Nat):Int)) (D_:((f m2:Nat):Int)<=(u.size:Int)) (Ea:(kx:Int)<((pts u).length:Int)) (Eb:(ky:Int)<((pts u).length:Int)) (Ec:(kz:Int)<((pts u).length:Int))
  (f1:¬ ((f b:Nat):Int)<((f kx:Nat):Int)) (f4:(((f b:Nat):Int)==-1)=false) (f5:((f b:Nat):Int)<=((f e:Nat):Int)) (f6:((f e:Nat):Int)<=(u.size:Int))
  (hc:(m1=ky/\m2=kz/\¬ ((f kz:Nat):Int)<((f ky:Nat):Int))\/(m1=kz/\m2=ky/\((f kz:Nat):Int)<((f ky:Nat):Int)))
  (ho:ov=0) (a1:((f kx:Nat):Int)<=((f m1:Nat):Int)) (a2:((f m1:Nat):Int)<((f b:Nat):Int)) :
  Calls Tryz.prog 8 #[.string p,.string t,.int .i64 x,.int .i64 y,.int .i64 z] w fun e w'=>e=.returned (.bool true)/\Hid (Below w.heap.size w w'):=by
 subst ho
 rcases hc with ⟨rfl,rfl,hcd⟩ | ⟨rfl,rfl,hcd⟩ <;>
 ·go_enter Tryz.func8,Tryz.ntmps8
  go_wp2_with (first
   | (have H':=HA;clear HA;go_at_call 16;refine (aa H').mono ?_;clear H';rintro x w1 ⟨rfl,B1⟩)
   | (have H':=HR1;clear HR1;go_at_call 17;refine (aa H' w1 (ak ht B1)).mono ?_;clear H';rintro x w2 ⟨rfl,hb2⟩;have B2:=ax B1 hb2;clear hb2)
   | (go_at_call 18;refine (aa HC w2).mono ?_;clear HC;rintro x w3 ⟨rfl,rfl⟩)
   | (go_at_call 21;refine (aa kR _ (ak ht B2)).mono ?_;clear kR;rintro x w5 ⟨g,cap,rfl,hb5,iC⟩;have B5:=ax B2 hb5;clear hb5;have gx:=aa HRW w5 w5 _ g cap _ iC (hide (Below.refl _ _)) hkx)
   | (have H':=xn;clear xn;go_at_call 24;refine (aa H' w5).mono ?_;clear H';rintro x w5' ⟨rfl,rfl⟩)
   | (have H':=tT;clear tT;go_at_call 25;refine (aa H' _ (ak ht B5)).mono ?_;clear H';rintro x w6 ⟨hx | hx,hb6⟩<;>subst hx<;>(have B6:=ax B5 hb6;have gy:=aa HRW _ w6 _ g cap _ iC hb6 D8;have gz:=aa HRW _ w6 _ g cap _ iC hb6 hkz))
   | (have H':=xq;clear xq;go_at_call 24;refine (aa H' w6).mono ?_;clear H';rintro x w6' ⟨rfl,rfl⟩)
   | (have H':=xu;clear xu;go_at_call 24;refine (aa H' _).mono ?_;clear H';rintro x w6'' ⟨rfl,rfl⟩)
   | (have H':=tF;clear tF;go_at_call 22;refine (aa H' _ (ak ht B6)).mono ?_;clear H';rintro x w7 ⟨⟨b1,rfl⟩,qG⟩;have B7:=ax B6 qG;clear qG;cases b1;clear pV)
   | (have H':=pV;clear pV;go_at_call 22;refine (aa H' _ (ak ht B7)).mono ?_;clear H';rintro x w8 ⟨⟨b2,rfl⟩,y_⟩;have B8:=ax B7 y_;clear y_;cases b2)
   | (have H':=mg;clear mg;go_at_call 19;refine (aa H' w8 (ak ht B8)).mono ?_;clear H';rintro x w9 ⟨rfl,ma⟩;have B9:=ax B8 ma;clear ma)
   | (have H':=mg;clear mg;go_at_call 19;refine (aa H' w7 (ak ht B7)).mono ?_;clear H';rintro x w9 ⟨rfl,ma⟩;have B9:=ax B7 ma;clear ma)
   | (have H':=Aa;clear Aa;go_at_call 22;refine (aa H' _ (ak ht B9)).mono ?_;clear H';rintro x wa ⟨⟨b3,rfl⟩,Qm⟩;have Ba:=ax B9 Qm;clear Qm;cases b3)
   | (have H':=FL;clear FL;go_at_call 22;refine (aa H' _ (ak ht Ba)).mono ?_;clear H';rintro x wb ⟨⟨b4,rfl⟩,hbb⟩;have Bb:=ax Ba hbb;clear hbb;cases b4)
   | (have H':=uk;clear uk;go_at_call 19;refine (aa H' wb (ak ht Bb)).mono ?_;clear H';rintro x wc ⟨rfl,hbc⟩;have Bc:=ax Bb hbc;clear hbc)
   | (have H':=uk;clear uk;go_at_call 19;refine (aa H' wa (ak ht Ba)).mono ?_;clear H';rintro x wc ⟨rfl,hbc⟩;have Bc:=ax Ba hbc;clear hbc))
  all_goals first
   | (go_ret;exact ⟨rfl,B6⟩)
   | (go_ret;exact ⟨rfl,Bc⟩)
end Go.Proofs.YtfolanohokflkaaGreatDoor
