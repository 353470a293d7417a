import Derived.Test.YtfolanohokflkaaGreatDoorFnP
import Derived.Test.YtfolanohokflkaaGreatDoorFnQ
import Derived.Test.YtfolanohokflkaaGreatDoorFnR
import Derived.Test.YtfolanohokflkaaGreatDoorFnS
import Derived.Test.YtfolanohokflkaaGreatDoorFnT
import Derived.Test.YtfolanohokflkaaGreatDoorCards
import Derived.Test.YtfolanohokflkaaGreatDoorTie
import Derived.Test.YtfolanohokflkaaGreatDoorFnE
import Derived.WalkKit
import Derived.ProofKit
import Derived.OpenShut
import Derived.Carry
import Derived.ChangeOld
import Derived.Deep.Slices
import Derived.ChangeMaps5
import Derived.Deep.DeepHandedRow
import Derived.Lib.LaidTab
import Derived.Lib.LaidU8
import Derived.Lay
namespace Go.Proofs.YtfolanohokflkaaGreatDoor
open Go.RowKit
set_option maxRecDepth 100000 in
set_option maxHeartbeats 40000000 in
theorem Xb {w:World} {p t:ByteArray} {x y z:Int} (ht:Hid (Lib.Utf8Tabs 4 5 w)) (h:sD p=false) :
  Calls Tryz.prog 8 #[.string p,.string t,.int .i64 x,.int .i64 y,.int .i64 z] w fun e w'=>e=.returned (.bool true)/\Hid (Below w.heap.size w w'):=by
 have HA:=hide (FK ht)
 have HR1:=hide (fun (W:World) h=>FJ (w:=W) (p:=p) h)
 rw [h] at HR1
 go_enter Tryz.func8,Tryz.ntmps8
 go_wp2_with (first
  | (go_at_call 16;refine (aa HA).mono ?_;clear HA;rintro x w1 ⟨rfl,B1⟩)
  | (go_at_call 17;refine (aa HR1 w1 (ak ht B1)).mono ?_;clear HR1;rintro x w2 ⟨rfl,hb2⟩;have B2:=ax B1 hb2;clear hb2))
 go_ret
 exact ⟨rfl,B2⟩
set_option maxRecDepth 100000 in
set_option maxHeartbeats 40000000 in
theorem NQ {w:World} {p t u:ByteArray} {P:Pt} {x y z:Int} (hp:bP p=.ok P) (hu:u.size<=30) (ht:Hid (Lib.Utf8Tabs 4 5 w))
  (hx0:-9223372036854775808<=x) (hx1:x<=9223372036854775807) (hy0:-9223372036854775808<=y) (hy1:y<=9223372036854775807) (hz0:-9223372036854775808<=z) (hz1:z<=9223372036854775807)
  (HC:Hid (∀ W:World,Calls Tryz.prog 18 #[.string t,.int .i64 30] W fun x w'=>x=.returned (.string u)/\w'=W)) (hr:sD p=true) :
  Calls Tryz.prog 8 #[.string p,.string t,.int .i64 x,.int .i64 y,.int .i64 z] w fun e w'=>e=.returned (.bool true)/\Hid (Below w.heap.size w w'):=by
 have HA:=hide (FK ht)
 have HR1:=hide (fun (W:World) h=>FJ (w:=W) (p:=p) h)
 rw [hr] at HR1
 have hpos:=xg u
 have nR:=mR u
 have kR:=hide (fun (W:World) h=>qz (w:=W) (t:=u) (by omega) h (hide (FI (by omega))))
 have xn:=hide (fun (W:World)=>Dr (w:=W) (c:=x) (n:=(pts u).length) hx0 hx1 hpos (by omega))
 have xq:=hide (fun (W:World)=>Dr (w:=W) (c:=y) (n:=(pts u).length) hy0 hy1 hpos (by omega))
 have xu:=hide (fun (W:World)=>Dr (w:=W) (c:=z) (n:=(pts u).length) hz0 hz1 hpos (by omega))
 have hkx:=Dq x hpos
 have D8:=Dq y hpos
 have hkz:=Dq z hpos
 generalize y9 x (pts u).length=kx at *
 generalize y9 y (pts u).length=ky at *
 generalize y9 z (pts u).length=kz at *
 have tT:=hide (fun (W:World) h=>ZK (u:=u) hp (by omega) hkx W h)
 have HIS:Hid (∀ (W:World) (i j:Nat),Hid (Lib.Utf8Tabs 4 5 W)->i<=j->j<(pts u).length->Calls Tryz.prog 19 #[.string p,.string (u.extract (pt u i) (pt u j))] W fun x w'=>x=.returned (.int .i64 (if WW P u i j=true then 1 else 0))/\Hid (Below W.heap.size W w')):=fun W i j hW hij hj=>by
  have h:=Hm (w:=W) (p:=p) (u:=u.extract (pt u i) (pt u j)) (vg u _ _ (by omega)) hW
  rw [WX hp hij hj] at h
  exact h
 have ZO:Hid (∀ (W:World) (k:Nat),Hid (Lib.Utf8Tabs 4 5 W)->k<(pts u).length->Calls Tryz.prog 22 #[.string u,.int .i64 ((pt u k:Nat):Int)] W fun e w'=>(∃ b,e=.returned (.bool b))/\Hid (Below W.heap.size W w')):=fun W k hW hk=>Dm (WV hk) (by omega) hW (hide fun u hu=>FI hu)
 have HPM:Hid (∀ i j,i<=j->j<(pts u).length->pt u i<=pt u j/\pt u j<=u.size):=fun i j h1 h2=>⟨Hq h1 h2,WV h2⟩
 have RG:Hid (∀ i j,i<j->j<(pts u).length->pt u i<pt u j):=fun i j h1 h2=>Dt h1 h2
 have HFS:Hid (∀ b e,zB (dE P) (kS u) kx=some (b,e)->kx<=b/\b<=e/\e<(pts u).length/\WW P u b e=true/\∀ c d,c<=d->d<(pts u).length->WW P u c d=true->¬ (pt u kx<=pt u c/\(pt u c<pt u b\/(pt u c=pt u b/\pt u e<pt u d)))):=fun b e h=>Hr hkx h
 have SQ:Hid (zB (dE P) (kS u) kx=none->∀ c d,c<=d->d<(pts u).length->WW P u c d=true->pt u c<pt u kx):=fun h c d h1 h2 h3=>ZJ hkx h h1 h2 h3
 have HRW:Hid (∀ (w5 W:World) (B g cap k:Nat),Hid (w5.ownsRow B 3 1 (.slice (some ⟨g,0,none⟩) (pts u).length cap) (pts u).length (ints (az (pts u))))->Hid (Below w5.heap.size w5 W)->k<(pts u).length->W.cell? ⟨g,k,none⟩=some (.int .i64 ((pt u k:Nat):Int))):=fun w5 W B g cap k ho hb hk=>by
  have h1:=sw (aa ho) hk
  rw [sF hk] at h1
  exact aW hb (World.block_lt_of_cell? _ _ h1) h1
 unfold StR at kR
 generalize zB (dE P) (kS u) kx=fr at *
 generalize WW P u=Wd at *
 clear hp hr hx0 hx1 hy0 hy1 hz0 hz1
 obtain ⟨m1,m2,hm,hm2,hc⟩:∃ m1 m2,m1<=m2/\m2<(pts u).length/\((m1=ky/\m2=kz/\¬ ((pt u kz:Nat):Int)<((pt u ky:Nat):Int))\/(m1=kz/\m2=ky/\((pt u kz:Nat):Int)<((pt u ky:Nat):Int))):=by
  by_cases h:ky<=kz
  ·refine ⟨ky,kz,h,hkz,.inl ⟨rfl,rfl,?_⟩⟩
   have:=(aa HPM ky kz h hkz).1
   omega
  ·refine ⟨kz,ky,by omega,D8,.inr ⟨rfl,rfl,?_⟩⟩
   have:=aa RG kz ky (by omega) D8
   omega
 have tF:=hide (fun (W:World) h=>aa ZO W m1 h (by omega))
 have pV:=hide (fun (W:World) h=>aa ZO W m2 h hm2)
 have mg:=hide (fun (W:World) h=>aa HIS W m1 m2 h hm hm2)
 obtain ⟨hCD,hDU⟩:=aa HPM m1 m2 hm hm2
 have D9:((pt u m1:Nat):Int)<=((pt u m2:Nat):Int):=by omega
 have D_:((pt u m2:Nat):Int)<=(u.size:Int):=by omega
 have Ea:(kx:Int)<((pts u).length:Int):=by omega
 have Eb:(ky:Int)<((pts u).length:Int):=by omega
 have Ec:(kz:Int)<((pts u).length:Int):=by omega
 cases fr with
 | none=>
  have ZL:=aa SQ rfl m1 m2 hm hm2
  clear HFS SQ HIS ZO HPM RG hCD hDU
  unfold fnV at tT
  generalize pt u=f at *
  cases ho:Wd m1 m2
  ·rw [ho] at mg
   clear ZL
   rcases hc with ⟨rfl,rfl,hcd⟩ | ⟨rfl,rfl,hcd⟩
   ·simp only [Bool.false_eq_true,if_false] at mg
    go_enter Tryz.func8,Tryz.ntmps8
    go_wp2_with (first
   | (have H':=HA;clear HA;go_at_call 16;refine (aa H').mono ?_;clear H';rintro x w1 ⟨rfl,B1⟩)
   | (have H':=HR1;clear HR1;go_at_call 17;refine (aa H' w1 (ak ht B1)).mono ?_;clear H';rintro x w2 ⟨rfl,hb2⟩;have B2:=ax B1 hb2;clear hb2)
   | (go_at_call 18;refine (aa HC w2).mono ?_;clear HC;rintro x w3 ⟨rfl,rfl⟩)
   | (go_at_call 21;refine (aa kR _ (ak ht B2)).mono ?_;clear kR;rintro x w5 ⟨g,cap,rfl,hb5,iC⟩;have B5:=ax B2 hb5;clear hb5;have gx:=aa HRW w5 w5 _ g cap _ iC (hide (Below.refl _ _)) hkx)
   | (have H':=xn;clear xn;go_at_call 24;refine (aa H' w5).mono ?_;clear H';rintro x w5' ⟨rfl,rfl⟩)
   | (have H':=tT;clear tT;go_at_call 25;refine (aa H' _ (ak ht B5)).mono ?_;clear H';rintro x w6 ⟨hx | hx,hb6⟩<;>subst hx<;>(have B6:=ax B5 hb6;have gy:=aa HRW _ w6 _ g cap _ iC hb6 D8;have gz:=aa HRW _ w6 _ g cap _ iC hb6 hkz))
   | (have H':=xq;clear xq;go_at_call 24;refine (aa H' w6).mono ?_;clear H';rintro x w6' ⟨rfl,rfl⟩)
   | (have H':=xu;clear xu;go_at_call 24;refine (aa H' _).mono ?_;clear H';rintro x w6'' ⟨rfl,rfl⟩)
   | (have H':=tF;clear tF;go_at_call 22;refine (aa H' _ (ak ht B6)).mono ?_;clear H';rintro x w7 ⟨⟨b1,rfl⟩,qG⟩;have B7:=ax B6 qG;clear qG;cases b1;clear pV)
   | (have H':=pV;clear pV;go_at_call 22;refine (aa H' _ (ak ht B7)).mono ?_;clear H';rintro x w8 ⟨⟨b2,rfl⟩,y_⟩;have B8:=ax B7 y_;clear y_;cases b2)
   | (have H':=mg;clear mg;go_at_call 19;refine (aa H' w8 (ak ht B8)).mono ?_;clear H';rintro x w9 ⟨rfl,ma⟩;have B9:=ax B8 ma;clear ma)
   | (have H':=mg;clear mg;go_at_call 19;refine (aa H' w7 (ak ht B7)).mono ?_;clear H';rintro x w9 ⟨rfl,ma⟩;have B9:=ax B7 ma;clear ma))
    all_goals first
     | (go_ret;exact ⟨rfl,B6⟩)
     | (go_ret;exact ⟨rfl,B9⟩)
   ·simp only [Bool.false_eq_true,if_false] at mg
    go_enter Tryz.func8,Tryz.ntmps8
    go_wp2_with (first
   | (have H':=HA;clear HA;go_at_call 16;refine (aa H').mono ?_;clear H';rintro x w1 ⟨rfl,B1⟩)
   | (have H':=HR1;clear HR1;go_at_call 17;refine (aa H' w1 (ak ht B1)).mono ?_;clear H';rintro x w2 ⟨rfl,hb2⟩;have B2:=ax B1 hb2;clear hb2)
   | (go_at_call 18;refine (aa HC w2).mono ?_;clear HC;rintro x w3 ⟨rfl,rfl⟩)
   | (go_at_call 21;refine (aa kR _ (ak ht B2)).mono ?_;clear kR;rintro x w5 ⟨g,cap,rfl,hb5,iC⟩;have B5:=ax B2 hb5;clear hb5;have gx:=aa HRW w5 w5 _ g cap _ iC (hide (Below.refl _ _)) hkx)
   | (have H':=xn;clear xn;go_at_call 24;refine (aa H' w5).mono ?_;clear H';rintro x w5' ⟨rfl,rfl⟩)
   | (have H':=tT;clear tT;go_at_call 25;refine (aa H' _ (ak ht B5)).mono ?_;clear H';rintro x w6 ⟨hx | hx,hb6⟩<;>subst hx<;>(have B6:=ax B5 hb6;have gy:=aa HRW _ w6 _ g cap _ iC hb6 D8;have gz:=aa HRW _ w6 _ g cap _ iC hb6 hkz))
   | (have H':=xq;clear xq;go_at_call 24;refine (aa H' w6).mono ?_;clear H';rintro x w6' ⟨rfl,rfl⟩)
   | (have H':=xu;clear xu;go_at_call 24;refine (aa H' _).mono ?_;clear H';rintro x w6'' ⟨rfl,rfl⟩)
   | (have H':=tF;clear tF;go_at_call 22;refine (aa H' _ (ak ht B6)).mono ?_;clear H';rintro x w7 ⟨⟨b1,rfl⟩,qG⟩;have B7:=ax B6 qG;clear qG;cases b1;clear pV)
   | (have H':=pV;clear pV;go_at_call 22;refine (aa H' _ (ak ht B7)).mono ?_;clear H';rintro x w8 ⟨⟨b2,rfl⟩,y_⟩;have B8:=ax B7 y_;clear y_;cases b2)
   | (have H':=mg;clear mg;go_at_call 19;refine (aa H' w8 (ak ht B8)).mono ?_;clear H';rintro x w9 ⟨rfl,ma⟩;have B9:=ax B8 ma;clear ma)
   | (have H':=mg;clear mg;go_at_call 19;refine (aa H' w7 (ak ht B7)).mono ?_;clear H';rintro x w9 ⟨rfl,ma⟩;have B9:=ax B7 ma;clear ma))
    all_goals first
     | (go_ret;exact ⟨rfl,B6⟩)
     | (go_ret;exact ⟨rfl,B9⟩)
  ·rw [ho] at mg
   have hcf:((f m1:Nat):Int)<((f kx:Nat):Int):=by have:=ZL ho;omega
   clear ZL
   rcases hc with ⟨rfl,rfl,hcd⟩ | ⟨rfl,rfl,hcd⟩
   ·simp only [if_true] at mg
    go_enter Tryz.func8,Tryz.ntmps8
    go_wp2_with (first
   | (have H':=HA;clear HA;go_at_call 16;refine (aa H').mono ?_;clear H';rintro x w1 ⟨rfl,B1⟩)
   | (have H':=HR1;clear HR1;go_at_call 17;refine (aa H' w1 (ak ht B1)).mono ?_;clear H';rintro x w2 ⟨rfl,hb2⟩;have B2:=ax B1 hb2;clear hb2)
   | (go_at_call 18;refine (aa HC w2).mono ?_;clear HC;rintro x w3 ⟨rfl,rfl⟩)
   | (go_at_call 21;refine (aa kR _ (ak ht B2)).mono ?_;clear kR;rintro x w5 ⟨g,cap,rfl,hb5,iC⟩;have B5:=ax B2 hb5;clear hb5;have gx:=aa HRW w5 w5 _ g cap _ iC (hide (Below.refl _ _)) hkx)
   | (have H':=xn;clear xn;go_at_call 24;refine (aa H' w5).mono ?_;clear H';rintro x w5' ⟨rfl,rfl⟩)
   | (have H':=tT;clear tT;go_at_call 25;refine (aa H' _ (ak ht B5)).mono ?_;clear H';rintro x w6 ⟨hx | hx,hb6⟩<;>subst hx<;>(have B6:=ax B5 hb6;have gy:=aa HRW _ w6 _ g cap _ iC hb6 D8;have gz:=aa HRW _ w6 _ g cap _ iC hb6 hkz))
   | (have H':=xq;clear xq;go_at_call 24;refine (aa H' w6).mono ?_;clear H';rintro x w6' ⟨rfl,rfl⟩)
   | (have H':=xu;clear xu;go_at_call 24;refine (aa H' _).mono ?_;clear H';rintro x w6'' ⟨rfl,rfl⟩)
   | (have H':=tF;clear tF;go_at_call 22;refine (aa H' _ (ak ht B6)).mono ?_;clear H';rintro x w7 ⟨⟨b1,rfl⟩,qG⟩;have B7:=ax B6 qG;clear qG;cases b1;clear pV)
   | (have H':=pV;clear pV;go_at_call 22;refine (aa H' _ (ak ht B7)).mono ?_;clear H';rintro x w8 ⟨⟨b2,rfl⟩,y_⟩;have B8:=ax B7 y_;clear y_;cases b2)
   | (have H':=mg;clear mg;go_at_call 19;refine (aa H' w8 (ak ht B8)).mono ?_;clear H';rintro x w9 ⟨rfl,ma⟩;have B9:=ax B8 ma;clear ma)
   | (have H':=mg;clear mg;go_at_call 19;refine (aa H' w7 (ak ht B7)).mono ?_;clear H';rintro x w9 ⟨rfl,ma⟩;have B9:=ax B7 ma;clear ma))
    all_goals first
     | (go_ret;exact ⟨rfl,B6⟩)
     | (go_ret;exact ⟨rfl,B9⟩)
   ·simp only [if_true] at mg
    go_enter Tryz.func8,Tryz.ntmps8
    go_wp2_with (first
   | (have H':=HA;clear HA;go_at_call 16;refine (aa H').mono ?_;clear H';rintro x w1 ⟨rfl,B1⟩)
   | (have H':=HR1;clear HR1;go_at_call 17;refine (aa H' w1 (ak ht B1)).mono ?_;clear H';rintro x w2 ⟨rfl,hb2⟩;have B2:=ax B1 hb2;clear hb2)
   | (go_at_call 18;refine (aa HC w2).mono ?_;clear HC;rintro x w3 ⟨rfl,rfl⟩)
   | (go_at_call 21;refine (aa kR _ (ak ht B2)).mono ?_;clear kR;rintro x w5 ⟨g,cap,rfl,hb5,iC⟩;have B5:=ax B2 hb5;clear hb5;have gx:=aa HRW w5 w5 _ g cap _ iC (hide (Below.refl _ _)) hkx)
   | (have H':=xn;clear xn;go_at_call 24;refine (aa H' w5).mono ?_;clear H';rintro x w5' ⟨rfl,rfl⟩)
   | (have H':=tT;clear tT;go_at_call 25;refine (aa H' _ (ak ht B5)).mono ?_;clear H';rintro x w6 ⟨hx | hx,hb6⟩<;>subst hx<;>(have B6:=ax B5 hb6;have gy:=aa HRW _ w6 _ g cap _ iC hb6 D8;have gz:=aa HRW _ w6 _ g cap _ iC hb6 hkz))
   | (have H':=xq;clear xq;go_at_call 24;refine (aa H' w6).mono ?_;clear H';rintro x w6' ⟨rfl,rfl⟩)
   | (have H':=xu;clear xu;go_at_call 24;refine (aa H' _).mono ?_;clear H';rintro x w6'' ⟨rfl,rfl⟩)
   | (have H':=tF;clear tF;go_at_call 22;refine (aa H' _ (ak ht B6)).mono ?_;clear H';rintro x w7 ⟨⟨b1,rfl⟩,qG⟩;have B7:=ax B6 qG;clear qG;cases b1;clear pV)
   | (have H':=pV;clear pV;go_at_call 22;refine (aa H' _ (ak ht B7)).mono ?_;clear H';rintro x w8 ⟨⟨b2,rfl⟩,y_⟩;have B8:=ax B7 y_;clear y_;cases b2)
   | (have H':=mg;clear mg;go_at_call 19;refine (aa H' w8 (ak ht B8)).mono ?_;clear H';rintro x w9 ⟨rfl,ma⟩;have B9:=ax B8 ma;clear ma)
   | (have H':=mg;clear mg;go_at_call 19;refine (aa H' w7 (ak ht B7)).mono ?_;clear H';rintro x w9 ⟨rfl,ma⟩;have B9:=ax B7 ma;clear ma))
    all_goals first
     | (go_ret;exact ⟨rfl,B6⟩)
     | (go_ret;exact ⟨rfl,B9⟩)
 | some be=>
  obtain ⟨b,e⟩:=be
  obtain ⟨hxb,hbe,heN,hwe,ZL⟩:=aa HFS b e rfl
  have ZL:=ZL m1 m2 hm hm2
  have Aa:=hide (fun (W:World) h=>aa ZO W b h (by omega))
  have FL:=hide (fun (W:World) h=>aa ZO W e h heN)
  have uk:=hide (fun (W:World) h=>aa HIS W b e h hbe heN)
  rw [hwe] at uk
  obtain ⟨hAB,hBU⟩:=aa HPM b e hbe heN
  have hFA:=(aa HPM kx b hxb (by omega)).1
  have f1:¬ ((pt u b:Nat):Int)<((pt u kx:Nat):Int):=by omega
  have f4:(((pt u b:Nat):Int)==-1)=false:=by rw [beq_eq_false_iff_ne];omega
  have f5:((pt u b:Nat):Int)<=((pt u e:Nat):Int):=by omega
  have f6:((pt u e:Nat):Int)<=(u.size:Int):=by omega
  clear HFS SQ HIS ZO HPM RG hCD hDU hAB hBU hFA hwe hxb hbe
  unfold fnV at tT
  simp only [if_true] at uk
  generalize pt u=f at *
  have cs:(¬ ((f kx:Nat):Int)<=((f m1:Nat):Int))\/(((f kx:Nat):Int)<=((f m1:Nat):Int)/\((f m1:Nat):Int)<((f b:Nat):Int)/\Wd m1 m2=false)\/(((f kx:Nat):Int)<=((f m1:Nat):Int)/\¬ ((f m1:Nat):Int)<((f b:Nat):Int)/\(((f m1:Nat):Int)==((f b:Nat):Int))=false)\/(((f kx:Nat):Int)<=((f m1:Nat):Int)/\¬ ((f m1:Nat):Int)<((f b:Nat):Int)/\(((f m1:Nat):Int)==((f b:Nat):Int))=true/\((f e:Nat):Int)<((f m2:Nat):Int)/\Wd m1 m2=false)\/(((f kx:Nat):Int)<=((f m1:Nat):Int)/\¬ ((f m1:Nat):Int)<((f b:Nat):Int)/\(((f m1:Nat):Int)==((f b:Nat):Int))=true/\¬ ((f e:Nat):Int)<((f m2:Nat):Int)):=by
   by_cases a1:((f kx:Nat):Int)<=((f m1:Nat):Int)
   ·by_cases a2:((f m1:Nat):Int)<((f b:Nat):Int)
    ·refine .inr (.inl ⟨a1,a2,?_⟩)
     cases hw:Wd m1 m2
     ·rfl
     ·exact absurd ⟨by omega,.inl (by omega)⟩ (ZL hw)
    ·by_cases a3:((f m1:Nat):Int)=((f b:Nat):Int)
     ·by_cases a4:((f e:Nat):Int)<((f m2:Nat):Int)
      ·refine .inr (.inr (.inr (.inl ⟨a1,a2,by simpa using a3,a4,?_⟩)))
       cases hw:Wd m1 m2
       ·rfl
       ·exact absurd ⟨by omega,.inr ⟨by omega,by omega⟩⟩ (ZL hw)
      ·exact .inr (.inr (.inr (.inr ⟨a1,a2,by simpa using a3,a4⟩)))
     ·exact .inr (.inr (.inl ⟨a1,a2,by simpa using a3⟩))
   ·exact .inl a1
  clear ZL
  have ho2:(if Wd m1 m2=true then (1:Int) else 0)=0\/(if Wd m1 m2=true then (1:Int) else 0)=1:=by
   split
   ·exact .inr rfl
   ·exact .inl rfl
  have ho0:Wd m1 m2=false->(if Wd m1 m2=true then (1:Int) else 0)=0:=fun h=>by rw [h];rfl
  rcases cs with a1 | ⟨a1,a2,ho⟩ | ⟨a1,a2,a3⟩ | ⟨a1,a2,a3,a4,ho⟩ | ⟨a1,a2,a3,a4⟩
  ·exact WY ht hkx D8 hkz HC HA HR1 kR xn xq xu tT HRW tF pV Aa FL mg uk D9 D_ Ea Eb Ec f1 f4 f5 f6 hc ho2 a1
  ·exact WZ ht hkx D8 hkz HC HA HR1 kR xn xq xu tT HRW tF pV Aa FL mg uk D9 D_ Ea Eb Ec f1 f4 f5 f6 hc (ho0 ho) a1 a2
  ·exact W9 ht hkx D8 hkz HC HA HR1 kR xn xq xu tT HRW tF pV Aa FL mg uk D9 D_ Ea Eb Ec f1 f4 f5 f6 hc ho2 a1 a2 a3
  ·exact W_ ht hkx D8 hkz HC HA HR1 kR xn xq xu tT HRW tF pV Aa FL mg uk D9 D_ Ea Eb Ec f1 f4 f5 f6 hc (ho0 ho) a1 a2 a3 a4
  ·exact Xa ht hkx D8 hkz HC HA HR1 kR xn xq xu tT HRW tF pV Aa FL mg uk D9 D_ Ea Eb Ec f1 f4 f5 f6 hc ho2 a1 a2 a3 a4
end Go.Proofs.YtfolanohokflkaaGreatDoor
namespace Go.Proofs.YtfolanohokflkaaGreatDoor
open Go.RowKit
theorem SC {w:World} {p t:ByteArray} {x y z:Int} (hx0:-9223372036854775808<=x) (hx1:x<=9223372036854775807) (hy0:-9223372036854775808<=y) (hy1:y<=9223372036854775807) (hz0:-9223372036854775808<=z) (hz1:z<=9223372036854775807) (ht:Hid (Lib.Utf8Tabs 4 5 w)) :
  Calls Tryz.prog 8 #[.string p,.string t,.int .i64 x,.int .i64 y,.int .i64 z] w fun e w'=>e=.returned (.bool true)/\Hid (Below w.heap.size w w'):=by
 cases h:sD p with
 | false=>exact Xb ht h
 | true=>
  obtain ⟨P,hP⟩:=WU h
  exact NQ (u:=WS t 30) hP (WT t 30) ht hx0 hx1 hy0 hy1 hz0 hz1 (hide fun W=>ZH (n:=30) (by omega)) h
end Go.Proofs.YtfolanohokflkaaGreatDoor
namespace Go.Proofs.YtfolanohokflkaaGreatDoor
open Go.ChangeShapes Go.WideShapes Go.ChangeAt Go.RowKit Go.ChangeMaps
theorem SE {W:World} (h:laidMetH Tryz.prog Rows.foundRow.laid W):Lib.Utf8Tabs 4 5 W:=by
 have h1:laidMet Tryz.prog Rows.foundRow.laid W:=h
 exact utf8Tabs_of_reads Tryz.XA XC (Lib.laidMet.reads h1 (by rw [<-SY];simp [Rows.foundRow])) (Lib.laidMet.reads h1 (by rw [<-Qp];simp [Rows.foundRow]))
set_option maxRecDepth 100000 in
theorem contract (H:Type) (enc:TypeId×Value->H) (W:World) (base:Nat) (args:Array Value) (ds gs:List (DataW H)) (before:List MemPlace)
  (hval:∀ (j:Nat) t v,Tryz.f8.params[j]? = some t->args[j]? = some v->Value.okWide Tryz.prog W .any base t v)
  (hW:DataW.Whole enc Tryz.prog Tryz.f8.params.toList Rows.foundSpec.vars false W args.toList ds gs before) (hL:laidMetH Tryz.prog Rows.foundRow.laid W) :
  Calls Tryz.prog 8 args W fun e W'=>∃ v,e=.returned v/\Rows.foundSpec.post enc Tryz.prog Tryz.f8 false true false false W args v W':=by
 have hW':=hW
 obtain ⟨p,q,hA0,hV,rfl,hfz,hnd⟩:=hW
 have hA:DataW.TrodAll enc Tryz.prog W 0 (fun _=>true) true Tryz.f8.params.toList args.toList ds p:=hA0
 rw [Tryz.params8] at hA hval
 obtain ⟨v0,vs0,d0,ds0,p0,q0,hargs,rfl,rfl,h0,r0⟩:=trodAll_cons hA
 obtain ⟨v1,vs1,d1,ds1,p1,q1,adT,rfl,rfl,h1,r1⟩:=trodAll_cons r0
 obtain ⟨v2,vs2,d2,ds2,p2,q2,adU,rfl,rfl,h2,r2⟩:=trodAll_cons r1
 obtain ⟨v3,vs3,d3,ds3,p3,q3,adV,rfl,rfl,h3,r3⟩:=trodAll_cons r2
 obtain ⟨v4,vs4,d4,ds4,p4,q4,adW,rfl,rfl,h4,r4⟩:=trodAll_cons r3
 obtain ⟨rfl,rfl,rfl⟩:=trodAll_nil r4
 obtain rfl:args=#[v0,v1,v2,v3,v4]:=by cases args;simp_all
 obtain ⟨rfl,rfl⟩:=trodVars_none hV
 obtain ⟨x,rfl,rfl,rfl,hx⟩:=open_string Tryz.underlying9 (hval 0 9 v0 rfl rfl) h0
 obtain ⟨y,rfl,rfl,rfl,hy⟩:=open_string Tryz.underlying9 (hval 1 9 v1 rfl rfl) h1
 obtain ⟨a,rfl,rfl,rfl,ha⟩:=open_int Tryz.underlying3 (hval 2 3 v2 rfl rfl) h2
 obtain ⟨b,rfl,rfl,rfl,hb⟩:=open_int Tryz.underlying3 (hval 3 3 v3 rfl rfl) h3
 obtain ⟨c,rfl,rfl,rfl,hc⟩:=open_int Tryz.underlying3 (hval 4 3 v4 rfl rfl) h4
 have wi:∀ {n:Int},(Lit.int .i64 n).wf=true->-9223372036854775808<=n/\n<=9223372036854775807:=fun {n} h=>by
  have e1:IntKind.min .i64=-9223372036854775808:=by decide
  have e2:IntKind.max .i64=9223372036854775807:=by decide
  have h':(decide (IntKind.min .i64<=n)&&decide (n<=IntKind.max .i64))=true:=h
  rw [Bool.and_eq_true,decide_eq_true_eq,decide_eq_true_eq,e1,e2] at h'
  exact h'
 have ha':=wi ha
 have hb':=wi hb
 have hc':=wi hc
 clear hA0
 refine (SC ha'.1 ha'.2 hb'.1 hb'.2 hc'.1 hc'.2 (hide (SE hL))).mono fun e W' ⟨he,hbw⟩=>?_
 subst he
 refine ⟨_,rfl,⟨_,_,_,[],[],[],hW',?_,?_,rfl,(aa hbw).frame _,fun h=>by cases h⟩⟩
 ·exact trodAll_cons_mk (shut_bool Tryz.underlying4 _) trodAll_mk0
 ·exact trodAll_cons_mk (shut_string Tryz.underlying9 hx) (trodAll_cons_mk (shut_string Tryz.underlying9 hy) (trodAll_cons_mk (shut_int Tryz.underlying3 ha) (trodAll_cons_mk (shut_int Tryz.underlying3 hb) (trodAll_cons_mk (shut_int Tryz.underlying3 hc) trodAll_mk0))))
noncomputable def yz (os:Os):World:=World.laidAll Tryz.prog os Rows.foundRow.laid
theorem Xc (os:Os):laidMet Tryz.prog Rows.foundRow.laid ((yz os).forCall (fun _ _=>0) ⟨#[],#[.string ⟨#[]⟩,.string ⟨#[]⟩,.int .i64 0,.int .i64 0,.int .i64 0],[]⟩).memory:=
 laidMet_laidAll #[.string ⟨#[]⟩,.string ⟨#[]⟩,.int .i64 0,.int .i64 0,.int .i64 0] (by kernel_rfl) (by kernel_rfl)
theorem reads (os:Os) {H:Type} (enc:TypeId×Value->H):∃ places,DataW.whole enc Tryz.prog ((yz os).forCall (fun _ _=>0) ⟨#[],#[.string ⟨#[]⟩,.string ⟨#[]⟩,.int .i64 0,.int .i64 0,.int .i64 0],[]⟩).memory Tryz.f8.params.toList Rows.foundSpec.vars false #[Value.string ⟨#[]⟩,Value.string ⟨#[]⟩,Value.int .i64 0,Value.int .i64 0,Value.int .i64 0].toList 8=some ([.lit (.string []),.lit (.string []),.lit (.int .i64 0),.lit (.int .i64 0),.lit (.int .i64 0)],[],places):=
 ⟨[],by kernel_rfl⟩
set_option maxRecDepth 100000 in
theorem lifted (os:Os) (started:os.Started) (H:Type) (enc:TypeId×Value->H) (F:Stop.Interp) :
  ReturnsInHanded {} Tryz.checked os 8 .any ((OpenSpec.ofChange Rows.foundSpec).preRow enc Tryz.prog Tryz.f8 Rows.foundRow.domain false Rows.foundRow.laid) (((OpenSpec.ofChange Rows.foundSpec).at F).post enc Tryz.prog Tryz.f8 false true false false):=by
 obtain ⟨places,hx⟩:=reads os enc
 refine returnsInHanded_of_row (C:=Tryz.checked) (s:=OpenSpec.ofChange Rows.foundSpec) own started (by kernel_rfl) Tryz.func8
  (witness_row_at (enc:=enc) (C:=Tryz.checked) false (yz os) #[.string ⟨#[]⟩,.string ⟨#[]⟩,.int .i64 0,.int .i64 0,.int .i64 0] (World.laidAll_os _ _ _) (by kernel_rfl) (by kernel_rfl) (by kernel_rfl)
   (OpenSpec.preRow_of_cond 8 hx (by kernel_rfl) (fun k hk=>by cases hk) (by kernel_rfl) (Xc os))) ?_
 intro W base args ds gs before hval hW _ _ _ hL _ _
 exact contract H enc W base args ds gs before hval hW hL
set_option maxRecDepth 100000 in
theorem said:Rows.FoundSaid:=
 OpenClaim.holds_of_cond 8 Tryz.f8 rfl rfl rfl rfl rfl rfl rfl ⟨rfl,rfl,rfl,rfl,rfl⟩ rfl rfl rfl rfl rfl (by kernel_rfl) Tryz.func8 (by exact adh)
  (of_decide_eq_true (by kernel_rfl)) (by unfold Func.isWrapper;first | (rw [if_pos (by decide +kernel)];kernel_rfl) | (rw [if_neg (by decide +kernel)];exact ⟨rfl,rfl⟩))
  (fun os started H enc _ F=>by rw [OpenClaim.pre_eq_preRow];exact lifted os started H enc F)
theorem found_card:Rows.FoundCardSaid:=
 Claim7.holds_tied_plain_at .later [] _ _ _ _ said (fun _ h=>by cases h) XD (fun _ h=>by cases h) found_row_tie rfl ⟨rfl,rfl⟩ Qs rfl plain Qt
#print axioms found_card
end Go.Proofs.YtfolanohokflkaaGreatDoor
