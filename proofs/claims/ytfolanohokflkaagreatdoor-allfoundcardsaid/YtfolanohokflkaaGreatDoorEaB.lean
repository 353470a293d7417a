import Derived.Test.YtfolanohokflkaaGreatDoorBlB
import Derived.Test.YtfolanohokflkaaGreatDoorBlH
import Derived.Test.YtfolanohokflkaaGreatDoorBlW
import Derived.Test.YtfolanohokflkaaGreatDoorPrI
import Derived.Laws.OwnMore
import Derived.Deep.RegionHeld3
import Derived.Test.YtfolanohokflkaaGreatDoorTxtB
import Derived.Test.YtfolanohokflkaaGreatDoorSpA
namespace Go.Proofs.YtfolanohokflkaaGreatDoor
open Go.RowKit
theorem aw1:isA ⟨#[97,42,98]⟩ ⟨#[97,97,98]⟩=1:=by decide +kernel
theorem aw2:isA ⟨#[126,40,97,42,41]⟩ ⟨#[97,97,98]⟩=1:=by decide +kernel
theorem aw3:isA ⟨#[46,123,50,125]⟩ ⟨#[195,169]⟩=0:=by decide +kernel
set_option maxRecDepth 100000 in
set_option maxHeartbeats 4000000 in
theorem FD {w:World} (ht:Hid (Lib.Utf8Tabs 4 5 w)) :
  Calls Tryz.prog 16 #[] w fun x w'=>x=.returned (.bool true)/\Hid (Below w.heap.size w w'):=by
 have H1:=hide (fun (W:World) h=>Oc (w:=W) (p:=⟨#[97,42,98]⟩) (u:=⟨#[97,97,98]⟩) (by decide) h)
 have H2:=hide (fun (W:World) h=>Oc (w:=W) (p:=⟨#[126,40,97,42,41]⟩) (u:=⟨#[97,97,98]⟩) (by decide) h)
 have H3:=hide (fun (W:World) h=>Oc (w:=W) (p:=⟨#[46,123,50,125]⟩) (u:=⟨#[195,169]⟩) (by decide) h)
 rw [aw1] at H1
 rw [aw2] at H2
 rw [aw3] at H3
 go_enter Tryz.func16,Tryz.ntmps16
 go_wp2_with (first
  | (have H1':=H1;clear H1;go_at_call 19;refine (aa H1' w ht).mono ?_;clear H1';rintro x w1 ⟨rfl,B1⟩)
  | (have H2':=H2;clear H2;go_at_call 19;refine (aa H2' w1 (jE ht B1)).mono ?_;clear H2';rintro x w2 ⟨rfl,hb2⟩;have B2:=Dc B1 hb2;clear hb2)
  | (have H3':=H3;clear H3;go_at_call 19;refine (aa H3' w2 (jE ht B2)).mono ?_;clear H3';rintro x w3 ⟨rfl,hb3⟩;have B3:=Dc B2 hb3;clear hb3))
 go_ret
 exact ⟨rfl,B3⟩
section
variable {p q S u:ByteArray} {P Q:Pt}
end
theorem Xp {p:ByteArray} (h:sO p=true):∃ P,bG p=.ok P:=by
 unfold sO at h
 cases e:bG p with
 | error x=>rw [e] at h;cases h
 | ok P=>exact ⟨P,rfl⟩
theorem Hm {p:ByteArray} {P:Pt} (h:bG p=.ok P):p.size<=60:=by
 unfold bG at h
 split at h
 ·cases h
 ·omega
theorem vD {t:ByteArray} {k:Nat} (h:k<(pts t).length):(pts t)[k]=pt t k:=by
 have e:=Z9 t k
 rw [<-e]
 simp [List.getD,h]
theorem acx {t:ByteArray} {j:Nat} (hj:j<(pts t).length):pt t j<=t.size:=ad1 (by rw [Ap] at hj;omega)
end Go.Proofs.YtfolanohokflkaaGreatDoor
namespace Go.Proofs.YtfolanohokflkaaGreatDoor
open Go.RowKit
open Tm (eps)
abbrev qQ:=Tm->Prop
def Aq (Bs:List Int) (Bd:Int) (V:qQ):Prop:=∃ (T:List Te) (M:List Nat),TI Bs T/\M.Nodup/\Bd<(M.length:Int)/\∀ n∈M,∃ y,V y/\Rp T n y
theorem Aq.mono {Bs:List Int} {Bd:Int} {V V':qQ} (h:Aq Bs Bd V) (hv:∀ y,V y->V' y):Aq Bs Bd V':=by
 obtain ⟨T,M,h1,h2,h3,h4⟩:=h
 refine ⟨T,M,h1,h2,h3,fun n hn=>?_⟩
 obtain ⟨y,a,b⟩:=h4 n hn
 exact ⟨y,hv y a,b⟩
def FE (T:List Te) (V:qQ) (M:List Nat):Prop:=(∀ n∈M,∃ y,V y/\Rp T n y)/\∀ y,V y->∃ n∈M,Rp T n y
theorem FE.congr {T:List Te} {V V':qQ} {M:List Nat} (h:FE T V M) (hv:∀ y,V y↔V' y):FE T V' M:=by
 refine ⟨fun n hn=>?_,fun y hy=>h.2 y ((hv y).2 hy)⟩
 obtain ⟨y,a,b⟩:=h.1 n hn
 exact ⟨y,(hv y).1 a,b⟩
theorem FE.add {T:List Te} {V:qQ} {M:List Nat} (h:FE T V M) {n:Nat} {y:Tm} (hn:Rp T n y):FE T (fun z=>V z\/z=y) (kr M n):=by
 have hm:∀ m,m∈kr M n↔m∈M\/m=n:=fun m=>by
  unfold kr
  split
  ·rename_i q
   constructor
   ·exact .inl
   ·rintro (a | a)
    ·exact a
    ·exact a▸q
  ·simp
 refine ⟨fun m hm'=>?_,fun z hz=>?_⟩
 ·rcases (hm m).1 hm' with a | a
  ·obtain ⟨z,b,c⟩:=h.1 m a
   exact ⟨z,.inl b,c⟩
  ·exact ⟨y,.inr rfl,a▸hn⟩
 ·rcases hz with a | a
  ·obtain ⟨m,b,c⟩:=h.2 z a
   exact ⟨m,(hm m).2 (.inl b),c⟩
  ·exact ⟨n,(hm n).2 (.inr rfl),a▸hn⟩
theorem FE.mono {T X:List Te} {V:qQ} {M:List Nat} (h:FE T V M):FE (T++X) V M:=by
 refine ⟨fun n hn=>?_,fun y hy=>?_⟩
 ·obtain ⟨y,a,b⟩:=h.1 n hn
  exact ⟨y,a,b.mono⟩
 ·obtain ⟨n,a,b⟩:=h.2 y hy
  exact ⟨n,a,b.mono⟩
theorem FE.ne {T:List Te}:FE T (fun _=>False) []:=⟨(fun n hn=>by cases hn),(fun _ h=>False.elim h)⟩
def vE (q:Tm) (L:List Int) (b k:Nat):qQ:=fun z=>∃ j,j<k/\z=aI q ((L.drop b).take j)
def sP (q:Tm) (L:List Int) (b:Nat):qQ:=vE q L b (L.length - b+1)
theorem Ls {V:qQ} {q:Tm} {L:List Int} {b k:Nat} (y:Tm):((V y\/vE q L b k y)\/y=aI q ((L.drop b).take k))↔(V y\/vE q L b (k+1) y):=by
 unfold vE
 constructor
 ·rintro ((h | ⟨j,h1,h2⟩) | h)
  ·exact .inl h
  ·exact .inr ⟨j,by omega,h2⟩
  ·exact .inr ⟨k,by omega,h⟩
 ·rintro (h | ⟨j,h1,h2⟩)
  ·exact .inl (.inl h)
  ·by_cases e:j=k
   ·subst e;exact .inr h2
   ·exact .inl (.inr ⟨j,by omega,h2⟩)
theorem Xq {V:qQ} {q:Tm} {L:List Int} {b k:Nat} (hk:b+k<=L.length) (h:aI q ((L.drop b).take k)=aG) (y:Tm):(V y\/vE q L b (k+1) y)↔(V y\/sP q L b y):=by
 unfold sP vE
 constructor
 ·rintro (a | ⟨j,h1,h2⟩)
  ·exact .inl a
  ·exact .inr ⟨j,by omega,h2⟩
 ·rintro (a | ⟨j,h1,h2⟩)
  ·exact .inl a
  ·by_cases e:j<=k
   ·exact .inr ⟨j,by omega,h2⟩
   ·refine .inr ⟨k,by omega,?_⟩
    rw [h2,show j=k+(j - k) from by omega,List.take_add,KG,h,pU]
theorem aah {q:Tm} {L:List Int} {b k:Nat} (hk:b+k<=L.length) {y:Tm} (h:vE q L b (k+1) y):sP q L b y:=by
 obtain ⟨j,h1,h2⟩:=h
 exact ⟨j,by omega,h2⟩
theorem acy {Bs:List Int} {Bd:Int} {V V':qQ} {T:List Te} {M:List Nat} (hM:FE T V' M) (hl:(M.length:Int)<=Bd) (hv:∀ y,V y->V' y):¬ Aq Bs Bd V:=by
 rintro ⟨T2,M2,t2,n2,l2,h2⟩
 have key:∀ (A:List Nat),A.Nodup->(∀ n∈A,∃ y,V y/\Rp T2 n y)->∃ B:List Nat,B.Nodup/\B.length=A.length/\(∀ m∈B,m∈M)/\∀ m∈B,∃ n∈A,∃ y,Rp T2 n y/\Rp T m y:=by
  intro A
  induction A with
  | nil=>intro _ _;exact ⟨[],List.nodup_nil,rfl,(fun _ h=>by cases h),(fun _ h=>by cases h)⟩
  | cons a A ih=>
   intro hn hA
   rw [List.nodup_cons] at hn
   obtain ⟨B,b1,b2,b3,b4⟩:=ih hn.2 fun n hn=>hA n (List.mem_cons_of_mem _ hn)
   obtain ⟨y,y1,y2⟩:=hA a (List.mem_cons_self ..)
   obtain ⟨m,m1,m2⟩:=hM.2 y (hv y y1)
   refine ⟨m::B,List.nodup_cons.2 ⟨fun hm=>?_,b1⟩,by simp [b2],fun x hx=>?_,fun x hx=>?_⟩
   ·obtain ⟨n,h1,z,h3,h4⟩:=b4 m hm
    have e1:z=y:=h4.uniq m2
    subst e1
    exact hn.1 (t2.inj _ _ _ y2 h3▸h1)
   ·rcases List.mem_cons.1 hx with e | e
    ·exact e▸m1
    ·exact b3 x e
   ·rcases List.mem_cons.1 hx with e | e
    ·exact ⟨a,List.mem_cons_self ..,y,y2,e▸m2⟩
    ·obtain ⟨n,h1,h3⟩:=b4 x e
     exact ⟨n,List.mem_cons_of_mem _ h1,h3⟩
 obtain ⟨B,b1,b2,b3,_⟩:=key M2 n2 h2
 have hsub:B.length<=M.length:=il b1 b3
 omega
section
variable {Bs:List Int} {w0 w w':World} {b0 mb tb:Nat} {t t':TB} {T T':List Te} {S C S' C':List (Value×Value)} {M M':List Nat} {KP:Nat->Prop}
theorem Xr {n:Nat} {Bd:Int} {V:qQ} {y:Tm} (h:Hid (mV Bs w0 w b0 mb tb t T S C M KP)) (hM:Hid (FE T V M)) (hr:Hid (Rp T n y)) (hn:n<=fU) (hb:Bd<((kr M n).length:Int)) :
  Calls Tryz.prog 100 #[.agg #[.int .i64 Bd,.map (some mb)],.int .i64 n] w fun e w'=>e=vF 7 0/\Hid (Below b0 w0 w')/\Hid (Aq Bs Bd (fun z=>V z\/z=y)):=by
 refine (AU (B:=Bd) (n:=n) (hide (aa h).met) hn).mono ?_
 rintro x w2 ⟨e,Hw,s2,o2,t2,u2,b2⟩
 have HS:=mV.meet h Hw s2 o2 t2 u2 b2
 rw [if_pos hb] at e
 exact ⟨e,hide (aa HS).below,hide ⟨T,kr M n,(aa HS).sz.ti,(aa HS).met.nd,hb,((aa hM).add (aa hr)).1⟩⟩
end
structure kV (Bs:List Int) (G:List Gx) (q0:Tm) (n0:Nat) (Bd:Int) (V:qQ) (w0 w:World) (b0 mb tb:Nat) (KP:Nat->Prop):Prop where
 ex:∃ (t:TB) (T:List Te) (S C:List (Value×Value)) (M:List Nat),Hid (mV Bs w0 w b0 mb tb t T S C M KP)/\Hid (FE T V M)/\Hid (Rp T n0 q0)/\Hid (T.length+mD G T (S.map (·.1)++[])<=fU)/\Hid ((M.length:Int)<=Bd)
def LgV (Bs:List Int) (G:List Gx) (q0:Tm) (n0:Nat) (Bd:Int) (V:qQ) (w0:World) (b0 mb tb:Nat) (KP:Nat->Prop) (o:Option Nat) (e:Ending) (w':World):Prop:=
 (e=vF 7 0/\Hid (Below b0 w0 w')/\Hid (Aq Bs Bd V))\/(e=.returned (.tuple #[adG o,adH o])/\Hid (kV Bs G q0 n0 Bd V w0 w' b0 mb tb KP))
set_option maxRecDepth 100000 in
set_option maxHeartbeats 8000000 in
theorem Tc {V:qQ} {Bs:List Int} {G:List Gx} {Vd:Tm->Int->Prop} {q0:Tm} {w0 w:World} {b0 sb mb tb:Nat} {KP:Nat->Prop} {Bd:Int} {n0 b:Nat} {L:List Int} {ao:Option Addr} {cap:Nat}
  (yR:Bs.length<=480) (hS:Kn G Vd) (h:Hid (kV Bs G q0 n0 Bd V w0 w b0 mb tb KP)) (ha:Hid (vv w0 sb mb tb Bd n0 L ao cap KP)) (hL:L.length<=60) (hb:b<=L.length) (hsy:∀ k,k<L.length->aF (L.getD k 0)=true) (hV:∀ k,b+k<L.length->Vd (aI q0 ((L.drop b).take k)) (L.getD (b+k) 0)) :
  Calls Tryz.prog 72 #[.pointer (some ⟨sb,0,none⟩),.int .i64 (b:Int)] w (LgV Bs G q0 n0 Bd (fun z=>V z\/sP q0 L b z) w0 b0 mb tb KP (Sq q0 L b)):=by
 obtain ⟨V',hV'⟩:∃ V':qQ,(fun z=>V z\/sP q0 L b z)=V':=⟨_,rfl⟩
 rw [hV']
 have HVE:=hide hV'
 clear hV'
 obtain ⟨t,T,S,C,M,dI,HM0,Gq,HP0,HL0⟩:=(aa h).ex
 have HM0:Hid (FE T (fun z=>V z\/vE q0 L b 0 z) M):=(aa HM0).congr fun y=>⟨.inl,fun h=>h.elim id fun ⟨j,h1,_⟩=>absurd h1 (Nat.not_lt_zero _)⟩
 obtain ⟨c0,c1,c2,c3,c4⟩:=(aa dI).cells (aa ha)
 have HR:Hid (∀ k,k<L.length->∃ g,ao=some ⟨g,0,none⟩/\KP g/\w0.cell? ⟨g,k,none⟩=some (.int .i32 (L.getD k 0))):=(aa ha).row
 have HV:=hide hV
 have HSS:=hide hS
 have HB:=hide yR
 clear hV hS h yR
 go_enter Tryz.func72,Tryz.ntmps72
 go_wp2_with fail
 clear c0 c1 c2 c3 c4
 go_loopw [4,5,6,7] (fun en fo nu pl wr=>∃ (k n:Nat) (t':TB) (T':List Te) (S' C':List (Value×Value)) (M':List Nat),b+k<=L.length/\en=adG (KF q0 L b k)/\fo=adH (KF q0 L b k)/\nu=.int .i64 (n:Int)/\pl=.int .i64 ((b+k:Nat):Int)/\Hid (Rp T' n (aI q0 ((L.drop b).take k)))/\Hid (Rp T' n0 q0)/\Hid (FE T' (fun z=>V z\/vE q0 L b k z) M')/\Hid (T'.length+mD G T' (S'.map (·.1)++[])<=fU)/\Hid ((M'.length:Int)<=Bd)/\Hid (mV Bs w0 wr b0 mb tb t' T' S' C' M' KP)) (fun _ _ _ pl _=>L.length - (intOf pl).toNat)
 case atStart=>exact ⟨0,n0,t,T,S,C,M,hb,rfl,rfl,rfl,rfl,Gq,Gq,HM0,HP0,HL0,dI⟩
 case round=>
  obtain ⟨k,n,t',T',S',C',M',hk,rfl,rfl,rfl,rfl,HN,HN0,HMO,uk,HML,Al⟩:=hrel
  clear dI HM0 Gq HP0 HL0 HML
  obtain ⟨c0,c1,c2,c3,c4⟩:=(aa Al).cells (aa ha)
  have hnl:n<=fU:=by have h1:=(aa HN).lt;have h2:=aa uk;omega
  by_cases hov:Bd<((kr M' n).length:Int)
  ·have HM:=hide (Xr Al HMO HN hnl hov)
   have HOV:Hid (∀ h:Aq Bs Bd (fun z=>(V z\/vE q0 L b k z)\/z=aI q0 ((L.drop b).take k)),Aq Bs Bd V'):=fun h=>by rw [<-aa HVE];exact h.mono fun y hy=>((Ls y).1 hy).imp_right (aah hk)
   clear HR HV HSS HN HN0 HMO uk Al hov
   go_wp2_with (go_at_call 100;refine (aa HM).mono ?_;clear HM;rintro x w2 ⟨rfl,HB2,jh⟩)
   exact ⟨rfl,.inl ⟨rfl,HB2,hide (aa HOV (aa jh))⟩⟩
  ·have HM:=hide (ZC Al hnl hov)
   have Xt:Hid (FE T' (fun z=>V z\/vE q0 L b (k+1) z) (kr M' n)):=((aa HMO).add (aa HN)).congr Ls
   have HLE:Hid (((kr M' n).length:Int)<=Bd):=Int.not_lt.1 hov
   have hn0:(0:Int)<=(n:Int):=by omega
   have hlN:(n:Int)<(T'.length:Int):=by have:=(aa HN).lt;omega
   have HE:Hid (∀ w2,Hid (mV Bs w0 w2 b0 mb tb t' T' S' C' (kr M' n) KP)->(∀ y,(V y\/vE q0 L b (k+1) y)↔(V y\/sP q0 L b y))->kV Bs G q0 n0 Bd V' w0 w2 b0 mb tb KP):=fun w2 h2 hv=>by rw [<-aa HVE];exact ⟨t',T',S',C',_,h2,hide ((aa Xt).congr hv),HN0,uk,HLE⟩
   by_cases hz:n=0
   ·subst hz
    have hvd:aI q0 ((L.drop b).take k)=aG:=(aa HN).uniq (aa Al).sz.ti.r0
    have HLG:Hid (Sq q0 L b=KF q0 L b k):=by
     show _=_
     unfold Sq
     rw [show L.length - b+1=k+(L.length - b+1 - k) from by omega]
     exact KH hvd _
    have HVV:Hid (∀ y,(V y\/vE q0 L b (k+1) y)↔(V y\/sP q0 L b y)):=fun y=>Xq hk hvd y
    rw [aa HLG]
    have HNU:Hid (∀ w2,Hid (mV Bs w0 w2 b0 mb tb t' T' S' C' (kr M' 0) KP)->∃ g cap,w2.cell? ⟨tb,22,none⟩=some (.slice (some ⟨g,0,none⟩) T'.length cap)/\w2.cell? ⟨g,0*5+4,none⟩=some (.bool false)):=fun w2 h2=>by
     have:=(aa h2).null (aa HN)
     rw [hvd] at this
     exact this
    clear HR HV HSS HN HN0 HMO uk hov Xt hvd HLG
    generalize KF q0 L b k=o at *
    go_wp2_with (go_at_call 100;refine (aa HM).mono ?_;clear HM;rintro x w2 ⟨rfl,HS2⟩;clear c0 c1 c2 c3 c4;obtain ⟨c0,c1,c2,c3,c4⟩:=(aa HS2).cells (aa ha);obtain ⟨g5,cp5,d0,d5⟩:=aa HNU w2 HS2)
    go_ret2
    exact .inr ⟨rfl,hide (aa HE _ HS2 (aa HVV))⟩
   ·have hzI:((n:Int)==0)=false:=by simp;omega
    have HNU:Hid (∀ w2,Hid (mV Bs w0 w2 b0 mb tb t' T' S' C' (kr M' n) KP)->∃ g cap,w2.cell? ⟨tb,22,none⟩=some (.slice (some ⟨g,0,none⟩) T'.length cap)/\w2.cell? ⟨g,n*5+4,none⟩=some (.bool (CX q0 L b k))):=fun w2 h2=>(aa h2).null (aa HN)
    have NG:Hid (KF q0 L b (k+1)=if CX q0 L b k=true then some (b+k) else KF q0 L b k):=rfl
    by_cases hlast:b+k=L.length
    ·have HLG:Hid (Sq q0 L b=KF q0 L b (k+1)):=by
      show _=_
      unfold Sq
      rw [show L.length - b+1=k+1 from by omega]
     have HVV:Hid (∀ y,(V y\/vE q0 L b (k+1) y)↔(V y\/sP q0 L b y)):=fun y=>by unfold sP;rw [show L.length - b+1=k+1 from by omega]
     rw [aa HLG,aa NG]
     clear HR HV HSS HN HN0 HMO uk hov Xt HLG NG
     generalize KF q0 L b k=o at *
     generalize CX q0 L b k=tf at *
     rw [hlast]
     cases tf
     ·go_wp2_with (go_at_call 100;refine (aa HM).mono ?_;clear HM;rintro x w2 ⟨rfl,HS2⟩;clear c0 c1 c2 c3 c4;obtain ⟨c0,c1,c2,c3,c4⟩:=(aa HS2).cells (aa ha);obtain ⟨g5,cp5,d0,d5⟩:=aa HNU w2 HS2)
      go_ret2
      exact .inr ⟨rfl,hide (aa HE _ HS2 (aa HVV))⟩
     ·go_wp2_with (go_at_call 100;refine (aa HM).mono ?_;clear HM;rintro x w2 ⟨rfl,HS2⟩;clear c0 c1 c2 c3 c4;obtain ⟨c0,c1,c2,c3,c4⟩:=(aa HS2).cells (aa ha);obtain ⟨g5,cp5,d0,d5⟩:=aa HNU w2 HS2)
      go_ret2
      exact .inr ⟨rfl,hide (aa HE _ HS2 (aa HVV))⟩
    ·have hlt:b+k<L.length:=by omega
     obtain ⟨g,rfl,hKg,hcg⟩:=aa HR (b+k) hlt
     have hsk:=hsy (b+k) hlt
     have HDT:=hide (ZB (q:=q0) hlt)
     have X3:=hide (aa HV k hlt)
     have PI:Hid (∀ (w2:World) (q:Nat),Hid (mV Bs w0 w2 b0 mb tb t' T' S' C' (kr M' n) KP)->Calls Tryz.prog 101 #[.pointer (some ⟨tb,0,none⟩),.int .i64 n,.int .i32 (L.getD (b+k) 0)] (w2.drewN q) (BO Bs G [] (fun i=>i<=n) 0 (aK (L.getD (b+k) 0) (aI q0 ((L.drop b).take k))) (w2.drewN q) t' T' S')):=fun w2 q h2=>by
      have h3:=mV.drewN h2 q
      have h:=CU (aa HB) (aa HSS) n _ (aa X3) (w2.drewN q) t' T' S' C' [] (L.getD (b+k) 0) (aa HN) hsk (Seg.refl _ _) (fun v hv=>by cases hv) (hide (aa h3).sz) (aa uk)
      rw [(aa h3).Sn] at h
      exact h
     have HCG:=hide hcg
     have afb:((b+k:Nat):Int)<(L.length:Int):=by omega
     have hneq:(((b+k:Nat):Int)==(L.length:Int))=false:=by simp;omega
     clear HR HV HSS hov X3 hcg hsy hlt hlast
     have hLI:L.length<=60:=hL
     generalize L.getD (b+k) 0=c at *
     generalize hpk:b+k=pk at *
     have Sc:Hid (∀ (r:Nat) (t3:TB) (T3:List Te) (S3 C3:List (Value×Value)) (w2 w3:World),Hid (mV Bs w0 w2 b0 mb tb t' T' S' C' (kr M' n) KP)->Rp T3 r (aK c (aI q0 ((L.drop b).take k)))->Hid (Sz Bs w3 t3 T3 S3 C3)->Hid (Nx G [] (fun i=>i<=n) 0 (w2.drewN 1) t' T' S' w3 t3 T3 S3)->∃ (k' n':Nat) (t4:TB) (T4:List Te) (S4 C4:List (Value×Value)) (M4:List Nat),k'=k+1/\n'=r/\Hid (Rp T4 n' (aI q0 ((L.drop b).take k')))/\Hid (Rp T4 n0 q0)/\Hid (FE T4 (fun z=>V z\/vE q0 L b k' z) M4)/\Hid (T4.length+mD G T4 (S4.map (·.1)++[])<=fU)/\Hid ((M4.length:Int)<=Bd)/\Hid (mV Bs w0 w3 b0 mb tb t4 T4 S4 C4 M4 KP)):=by
      intro r t3 T3 S3 C3 w2 w3 h2 hr hy hx
      have hs:=mV.bec (mV.drewN h2 1) hy (aa hx).fr
      obtain ⟨X,rfl⟩:=(aa hx).sub
      refine ⟨k+1,r,t3,_,S3,C3,_,rfl,rfl,?_,hide (aa HN0).mono,hide (aa Xt).mono,?_,HLE,hs⟩
      ·show Rp _ _ _
       rw [aa HDT];exact hr
      ·show _<=_
       have h1:=(aa hx).pay
       have h3:=aa uk
       omega
     have aai:Hid (∀ (t3:TB) (T3:List Te) (S3 C3:List (Value×Value)) (w2 w3:World),Hid (mV Bs w0 w2 b0 mb tb t' T' S' C' (kr M' n) KP)->Hid (Sz Bs w3 t3 T3 S3 C3)->Hid (Nx G [] (fun i=>i<=n) 0 (w2.drewN 1) t' T' S' w3 t3 T3 S3)->Hid (mV Bs w0 w3 b0 mb tb t3 T3 S3 C3 (kr M' n) KP)):=fun t3 T3 S3 C3 w2 w3 h2 hy hx=>mV.bec (mV.drewN h2 1) hy (aa hx).fr
     clear HN HN0 HMO uk Xt HDT HE HLE
     generalize hwt:CX q0 L b k=tf at *
     cases tf
     ·go_wp2_with (go_at_call 100;refine (aa HM).mono ?_;clear HM;rintro x w2 ⟨rfl,HS2⟩;clear c0 c1 c2 c3 c4;obtain ⟨c0,c1,c2,c3,c4⟩:=(aa HS2).cells (aa ha);obtain ⟨g5,cp5,d0,d5⟩:=aa HNU w2 HS2;have cg:=(aa HS2).cell hKg (aa HCG))
      have Xu:=hide (aa PI w2 1 HS2)
      clear PI HNU d0 d5 c1 c2 c3
      go_region_held3 (fun w'=>w'.cell? ⟨sb,0,none⟩=some (.pointer (some ⟨tb,0,none⟩))/\w'.cell? ⟨sb,4,none⟩=some (.slice (some ⟨g,0,none⟩) L.length cap)/\w'.cell? ⟨g,pk,none⟩=some (.int .i32 c)) (go_keep)
       (first | (go_at_call 101;refine (aa Xu).mono ?_;clear Xu;rintro x w3 ⟨r,t3,T3,S3,C3,rfl,hbr,yD,lI⟩;have mg:=aa aai t3 T3 S3 C3 w2 w3 HS2 yD lI;have TA:=hide (aa Sc r t3 T3 S3 C3 w2 w3 HS2 hbr yD lI);clear hbr aai Sc;obtain ⟨e0,e1,e2,e3,e4⟩:=(aa mg).cells (aa ha);have cg3:=(aa mg).cell hKg (aa HCG);clear e1 e2 e3))
      go_wp2_with fail
      go_roundw
      case rel=>
       obtain ⟨k',n',t4,T4,S4,C4,M4,rfl,rfl,q1,q2,q3,q4,q6,q5⟩:=aa TA
       refine ⟨k+1,_,t4,T4,S4,C4,M4,by omega,?_,?_,rfl,?_,q1,q2,q3,q4,q6,q5⟩
       ·rw [aa NG];rfl
       ·rw [aa NG];rfl
       ·subst hpk;go_num
      case measure=>simp [intOf];omega
     ·go_wp2_with (go_at_call 100;refine (aa HM).mono ?_;clear HM;rintro x w2 ⟨rfl,HS2⟩;clear c0 c1 c2 c3 c4;obtain ⟨c0,c1,c2,c3,c4⟩:=(aa HS2).cells (aa ha);obtain ⟨g5,cp5,d0,d5⟩:=aa HNU w2 HS2;have cg:=(aa HS2).cell hKg (aa HCG))
      have Xu:=hide (aa PI w2 1 HS2)
      clear PI HNU d0 d5 c1 c2 c3
      go_region_held3 (fun w'=>w'.cell? ⟨sb,0,none⟩=some (.pointer (some ⟨tb,0,none⟩))/\w'.cell? ⟨sb,4,none⟩=some (.slice (some ⟨g,0,none⟩) L.length cap)/\w'.cell? ⟨g,pk,none⟩=some (.int .i32 c)) (go_keep)
       (first | (go_at_call 101;refine (aa Xu).mono ?_;clear Xu;rintro x w3 ⟨r,t3,T3,S3,C3,rfl,hbr,yD,lI⟩;have mg:=aa aai t3 T3 S3 C3 w2 w3 HS2 yD lI;have TA:=hide (aa Sc r t3 T3 S3 C3 w2 w3 HS2 hbr yD lI);clear hbr aai Sc;obtain ⟨e0,e1,e2,e3,e4⟩:=(aa mg).cells (aa ha);have cg3:=(aa mg).cell hKg (aa HCG);clear e1 e2 e3))
      go_wp2_with fail
      go_roundw
      case rel=>
       obtain ⟨k',n',t4,T4,S4,C4,M4,rfl,rfl,q1,q2,q3,q4,q6,q5⟩:=aa TA
       refine ⟨k+1,_,t4,T4,S4,C4,M4,by omega,?_,?_,rfl,?_,q1,q2,q3,q4,q6,q5⟩
       ·rw [aa NG];rfl
       ·rw [aa NG];rfl
       ·subst hpk;go_num
      case measure=>simp [intOf];omega
theorem iC.other {w w':World} {t:TB} {T:List Te} {C:List (Value×Value)} {k0:Nat} {cur:Array Value} {ty:TypeId} {z:Nat×Nat} (h:iC w t T C) (hm:w.heap[k0]? = some (.cells cur ty z)) (hty:ty≠21) (hb:∀ k,k<w.heap.size->k≠k0->w'.heap[k]? = w.heap[k]?):iC w' t T C:=by
 refine ⟨h.1,fun p hp=>?_⟩
 obtain ⟨n,g,cap,l,y,e,h1,h2,h2',h3⟩:=h.2 p hp
 obtain ⟨cur',hg⟩:=h3.block
 refine ⟨n,g,cap,l,y,e,h1,h2,h2',h3.move (hb g h3.lt (fun e=>?_))⟩
 subst e
 rw [hg] at hm
 injection hm with hm
 injection hm with _ hm
 exact hty hm.symm
theorem mV.put {Bs:List Int} {w0 w:World} {b0 mb tb:Nat} {t:TB} {T:List Te} {S C:List (Value×Value)} {M:List Nat} {KP:Nat->Prop} {k0 j:Nat} {v:Value} {cur:Array Value} {ty:TypeId} {z:Nat×Nat} (h:mV Bs w0 w b0 mb tb t T S C M KP) (hk:w.heap[k0]? = some (.cells cur ty z)) (hty:ty≠21) (h1:¬ TF t k0) (h2:k0≠mb) (h3:¬ KP k0) (h4:b0<=k0):mV Bs w0 (w.setCell ⟨k0,j,none⟩ v) b0 mb tb t T S C M KP:=by
 have hs:(w.setCell ⟨k0,j,none⟩ v).heap.size=w.heap.size:=by simp [World.setCell]
 have e:∀ k,k≠k0->(w.setCell ⟨k0,j,none⟩ v).heap[k]? = w.heap[k]? := fun k hk=>Below.heap_setCell w ⟨k0,j,none⟩ v k hk
 refine ⟨⟨h.sz.tab.move (fun k hk _=>e k (fun q=>h1 (q▸hk))),h.sz.ti,h.sz.cv.other hk hty fun k _ q=>e k q,h.sz.sv⟩,h.met.move (e mb (Ne.symm h2)),h.Sn,h.apart,fun k hk=>?_,fun k hk=>?_,h.foot,h.XZ,by rw [hs];exact h.size,h.below.setCell h4 _⟩
 ·rw [hs];exact h.yE k hk
 ·exact (e k (fun q=>h3 (q▸hk))).trans (h.keep k hk)
section
variable {Bs:List Int} {G:List Gx} {q0:Tm} {n0:Nat} {Bd:Int} {V:qQ} {w0 w w':World} {b0 sb mb tb:Nat} {KP:Nat->Prop} {o:Obj}
theorem kV.below (h:kV Bs G q0 n0 Bd V w0 w b0 mb tb KP):Below b0 w0 w:=by
 obtain ⟨t,T,S,C,M,h1,-⟩:=h.ex
 exact (aa h1).below
theorem kV.size (h:kV Bs G q0 n0 Bd V w0 w b0 mb tb KP):b0<=w.heap.size:=by
 obtain ⟨t,T,S,C,M,h1,-⟩:=h.ex
 exact (aa h1).size
theorem kV.yE (h:kV Bs G q0 n0 Bd V w0 w b0 mb tb KP) {k:Nat} (hk:KP k):k<w.heap.size/\w.heap[k]? = w0.heap[k]? := by
 obtain ⟨t,T,S,C,M,h1,-⟩:=h.ex
 exact ⟨((aa h1).yE k hk).1,(aa h1).keep k hk⟩
theorem kV.base (h:Hid (kV Bs G q0 n0 Bd V w0 w b0 mb tb KP)) (o:Obj):Hid (kV Bs G q0 n0 Bd V (w.alloc o) (w.alloc o) b0 mb tb (fun k=>KP k\/k=w.heap.size)):=by
 obtain ⟨t,T,S,C,M,h1,h2,h3,h4,h5⟩:=(aa h).ex
 have g:=aa h1
 have hb:Below w.heap.size w (w.alloc o):=(Below.refl _ _).alloc (Nat.le_refl _) _
 have hm:=g.mlt
 refine ⟨t,T,S,C,M,⟨aa (Sz.below (hide g.sz) hb),g.met.move (hb.block _ hm),g.Sn,g.apart,fun k hk=>?_,fun _ _=>rfl,g.foot,g.XZ,Nat.le_trans g.size hb.size,Below.refl _ _⟩,h2,h3,h4,h5⟩
 rcases hk with hk | hk
 ·obtain ⟨a1,a2,a3⟩:=g.yE k hk
  exact ⟨Nat.lt_of_lt_of_le a1 hb.size,a2,a3⟩
 ·subst hk
  exact ⟨by simp,fun hf=>absurd (g.sz.tab.foot hf) (Nat.lt_irrefl _),by omega⟩
theorem vv.ad2 {L:List Int} {ao:Option Addr} {cap:Nat} (ha:Hid (vv w0 sb mb tb Bd n0 L ao cap KP)) (h:Hid (kV Bs G q0 n0 Bd V w0 w b0 mb tb KP)) (o:Obj):Hid (vv (w.alloc o) sb mb tb Bd n0 L ao cap (fun k=>KP k\/k=w.heap.size)):=by
 have a:=aa ha
 have hb:Below w.heap.size w (w.alloc o):=(Below.refl _ _).alloc (Nat.le_refl _) _
 have mv:∀ {k j:Nat} {x:Value},KP k->w0.cell? ⟨k,j,none⟩=some x->(w.alloc o).cell? ⟨k,j,none⟩=some x:=fun {k j x} hk hx=>by
  obtain ⟨a1,a2⟩:=(aa h).yE hk
  rw [World.cell?_of_block (a:=⟨k,j,none⟩) ((hb.block k a1).trans a2)]
  exact hx
 refine ⟨mv a.kp a.c0,mv a.kp a.c1,mv a.kp a.c2,mv a.kp a.c3,mv a.kp a.c4,.inl a.kp,fun k hk=>?_⟩
 obtain ⟨g,e,h1,h2⟩:=a.row k hk
 exact ⟨g,e,.inl h1,mv h1 h2⟩
end
theorem kV.fin {Bs:List Int} {G:List Gx} {q0:Tm} {n0:Nat} {Bd:Int} {V V2:qQ} {w w':World} {b0 mb tb:Nat} {KP:Nat->Prop} {x y:Value} (h:Hid (kV Bs G q0 n0 Bd V w w b0 mb tb KP)) (h':Hid (kV Bs G q0 n0 Bd V2 (w.alloc (.cells #[.int .i64 0,.int .i64 0] 72)) w' b0 mb tb (fun k=>KP k\/k=w.heap.size))):Hid (kV Bs G q0 n0 Bd V2 w ((w'.setCell ⟨w.heap.size,0,none⟩ x).setCell ⟨w.heap.size,1,none⟩ y) b0 mb tb KP):=by
 obtain ⟨-,hbl⟩:=(aa h').yE (k:=w.heap.size) (.inr rfl)
 have hbl:w'.heap[w.heap.size]? = some (.cells #[.int .i64 0,.int .i64 0] 72):=hbl.trans (heap_alloc_new _ _)
 have hkp:¬ KP w.heap.size:=fun q=>absurd ((aa h).yE q).1 (Nat.lt_irrefl _)
 have hb0:=(aa h).size
 obtain ⟨t,T,S,C,M,g1,h2,h3,h4,h5⟩:=(aa h').ex
 have g:=aa g1
 obtain ⟨-,a2,a3⟩:=g.yE w.heap.size (.inr rfl)
 have hb:Below w.heap.size w (w.alloc (.cells #[.int .i64 0,.int .i64 0] 72)):=(Below.refl _ _).alloc (Nat.le_refl _) _
 have g0:mV Bs w w' b0 mb tb t T S C M KP:=⟨g.sz,g.met,g.Sn,g.apart,fun k hk=>g.yE k (.inl hk),fun k hk=>(g.keep k (.inl hk)).trans (hb.block k ((aa h).yE hk).1),g.foot,g.XZ,g.size,(hb.mono hb0).trans g.below⟩
 have c1:=heap_setCell_same w' w.heap.size 0 _ _ x hbl
 exact ⟨t,T,S,C,M,hide ((g0.put hbl (by decide) a2 a3 hkp hb0).put c1 (by decide) a2 a3 hkp hb0),h2,h3,h4,h5⟩
def frV (q:Tm) (L:List Int):Nat->Nat->qQ
 | 0,_=>fun _=>False
 | f+1,b=>fun y=>sP q L b y\/(Sq q L b=none/\frV q L f (b+1) y)
def vI (q:Tm) (L:List Int) (b:Nat):qQ:=frV q L (L.length+1 - b) b
theorem Lt {q:Tm} {L:List Int} {b:Nat} (h:b<=L.length) (y:Tm):vI q L b y↔(sP q L b y\/(Sq q L b=none/\vI q L (b+1) y)):=by
 unfold vI
 rw [show L.length+1 - b=(L.length+1 - (b+1))+1 from by omega]
 rfl
theorem aaj {q:Tm} {L:List Int} {b:Nat} (h:¬ b<=L.length) (y:Tm):¬ vI q L b y:=by
 unfold vI
 rw [show L.length+1 - b=0 from by omega]
 exact fun h=>h
theorem kV.congr {Bs:List Int} {G:List Gx} {q0:Tm} {n0:Nat} {Bd:Int} {V V2:qQ} {w0 w:World} {b0 mb tb:Nat} {KP:Nat->Prop} (h:Hid (kV Bs G q0 n0 Bd V w0 w b0 mb tb KP)) (hv:∀ y,V y↔V2 y):Hid (kV Bs G q0 n0 Bd V2 w0 w b0 mb tb KP):=by
 obtain ⟨t,T,S,C,M,h1,h2,h3,h4,h5⟩:=(aa h).ex
 exact ⟨t,T,S,C,M,h1,hide ((aa h2).congr hv),h3,h4,h5⟩
def FrV (Bs:List Int) (G:List Gx) (q0:Tm) (n0:Nat) (Bd:Int) (V:qQ) (w:World) (b0 mb tb:Nat) (KP:Nat->Prop) (o:Option (Nat×Nat)) (e:Ending) (w':World):Prop:=
 (e=vF 7 0/\Hid (Below b0 w w')/\Hid (Aq Bs Bd V))\/(e=.returned (.tuple #[aeB o,.bool o.isSome])/\Hid (kV Bs G q0 n0 Bd V w w' b0 mb tb KP))
set_option maxRecDepth 100000 in
set_option maxHeartbeats 8000000 in
theorem QD {V:qQ} {Bs:List Int} {G:List Gx} {Vd:Tm->Int->Prop} {q0:Tm} {w:World} {b0 sb mb tb:Nat} {KP:Nat->Prop} {Bd:Int} {n0 b:Nat} {L:List Int} {ao:Option Addr} {cap:Nat}
  (yR:Bs.length<=480) (hS:Kn G Vd) (h:Hid (kV Bs G q0 n0 Bd V w w b0 mb tb KP)) (ha:Hid (vv w sb mb tb Bd n0 L ao cap KP)) (hL:L.length<=60) (hb:b<=L.length+1) (hsy:∀ k,k<L.length->aF (L.getD k 0)=true) (hV:∀ b k,b+k<L.length->Vd (aI q0 ((L.drop b).take k)) (L.getD (b+k) 0)) :
  Calls Tryz.prog 44 #[.pointer (some ⟨sb,0,none⟩),.int .i64 (b:Int)] w (FrV Bs G q0 n0 Bd (fun z=>V z\/vI q0 L b z) w b0 mb tb KP (pV q0 L b)):=by
 obtain ⟨V',hV'⟩:∃ V':qQ,(fun z=>V z\/vI q0 L b z)=V':=⟨_,rfl⟩
 rw [hV']
 have HVE:Hid (∀ y,V' y↔(V y\/vI q0 L b y)):=fun y=>by rw [<-hV']
 clear hV'
 obtain ⟨W1,hW1⟩:∃ W1,w.alloc (.cells #[.int .i64 0,.int .i64 0] 72)=W1:=⟨_,rfl⟩
 have H0:=kV.base h (.cells #[.int .i64 0,.int .i64 0] 72)
 have HA0:=vv.ad2 ha h (.cells #[.int .i64 0,.int .i64 0] 72)
 rw [hW1] at H0 HA0
 have HL:=hide (fun (Vk:qQ) (wr:World) (k:Nat) (h:Hid (kV Bs G q0 n0 Bd Vk W1 wr b0 mb tb (fun k=>KP k\/k=w.heap.size))) (hk:k<=L.length)=>Tc (w:=wr) (b:=k) yR hS h HA0 hL hk hsy (fun j hj=>hV k j hj))
 have Mx:Hid (Below b0 w W1):=by
  rw [<-hW1]
  exact (Below.refl _ _).alloc (aa h).size _
 have z0:W1.cell? ⟨w.heap.size,0,none⟩=some (.int .i64 0):=by rw [<-hW1];exact az rfl 0 rfl
 have z1:W1.cell? ⟨w.heap.size,1,none⟩=some (.int .i64 0):=by rw [<-hW1];exact az rfl 1 rfl
 have zf:∀ j,W1.frozen? ⟨w.heap.size,j,none⟩=false:=fun j=>by rw [<-hW1];exact World.frozen?_alloc_at _ _ _ _ rfl
 have HC:Hid (∀ (Vk:qQ) (wr:World),Hid (kV Bs G q0 n0 Bd Vk W1 wr b0 mb tb (fun k=>KP k\/k=w.heap.size))->wr.cell? ⟨w.heap.size,0,none⟩=some (.int .i64 0)/\wr.cell? ⟨w.heap.size,1,none⟩=some (.int .i64 0)/\(∀ j,wr.frozen? ⟨w.heap.size,j,none⟩=false)/\wr.cell? ⟨sb,4,none⟩=some (.slice ao L.length cap)):=fun Vk wr hr=>by
  obtain ⟨-,e⟩:=(aa hr).yE (k:=w.heap.size) (.inr rfl)
  obtain ⟨-,e2⟩:=(aa hr).yE (aa HA0).kp
  refine ⟨?_,?_,fun j=>?_,?_⟩
  ·rw [World.cell?_of_block (a:=⟨w.heap.size,0,none⟩) e];exact z0
  ·rw [World.cell?_of_block (a:=⟨w.heap.size,1,none⟩) e];exact z1
  ·rw [World.frozen?_of_block (a:=⟨w.heap.size,j,none⟩) e];exact zf j
  ·rw [World.cell?_of_block (a:=⟨sb,4,none⟩) e2];exact (aa HA0).c4
 have hb0:b0<=w.heap.size:=(aa h).size
 have HSV:=h
 clear h ha yR hS hsy hV HA0 z0 z1 zf
 subst hW1
 go_enter Tryz.func44,Tryz.ntmps44
 go_wp2_with fail
 go_loopw [6] (fun v wr=>∃ (k:Nat) (Vk:qQ),k<=L.length+1/\v=.int .i64 (k:Int)/\Hid (pV q0 L b=pV q0 L k)/\Hid (∀ y,V' y↔(Vk y\/vI q0 L k y))/\Hid (kV Bs G q0 n0 Bd Vk (w.alloc (.cells #[.int .i64 0,.int .i64 0] 72)) wr b0 mb tb (fun k=>KP k\/k=w.heap.size))) (fun v _=>L.length+1 - (intOf v).toNat)
 case atStart=>exact ⟨b,V,by omega,rfl,rfl,HVE,H0⟩
 case round=>
  obtain ⟨k,Vk,hk,rfl,HFR,X3,Al⟩:=hrel
  clear H0 HVE
  obtain ⟨c0,c1,cf,c4⟩:=aa HC Vk wr Al
  rw [aa HFR]
  by_cases hlt:k<=L.length
  ·have Xv:=hide (aa HL Vk wr k Al hlt)
   have LY:(k:Int)<=(L.length:Int):=by omega
   have HST:=hide (KI (q:=q0) hlt)
   have HOM:Hid (Aq Bs Bd (fun z=>Vk z\/sP q0 L k z)->Aq Bs Bd V'):=fun h=>h.mono fun y hy=>(aa X3 y).2 (hy.imp_right fun q=>(Lt hlt y).2 (.inl q))
   have HVS:Hid (∀ y,V' y↔((Vk y\/sP q0 L k y)\/(Sq q0 L k=none/\vI q0 L (k+1) y))):=fun y=>by rw [aa X3 y,Lt hlt y,or_assoc]
   unfold LgV at Xv
   rw [aa HST]
   cases hlg:Sq q0 L k with
   | none=>
    rw [hlg] at Xv
    have Xv:Hid (Calls Tryz.prog 72 #[.pointer (some ⟨sb,0,none⟩),.int .i64 (k:Int)] wr fun e w'=>(e=vF 7 0/\Hid (Below b0 (w.alloc (.cells #[.int .i64 0,.int .i64 0] 72)) w')/\Hid (Aq Bs Bd (fun z=>Vk z\/sP q0 L k z)))\/(e=.returned (.tuple #[.int .i64 0,.bool false])/\Hid (kV Bs G q0 n0 Bd (fun z=>Vk z\/sP q0 L k z) (w.alloc (.cells #[.int .i64 0,.int .i64 0] 72)) w' b0 mb tb (fun k=>KP k\/k=w.heap.size)))):=Xv
    clear HL
    go_wp2_with (go_at_call 72;refine (aa Xv).mono ?_;clear Xv;rintro x w2 (⟨rfl,HB2,jh⟩ | ⟨rfl,HS2⟩);rotate_left;clear c0 c1 cf c4;obtain ⟨c0,c1,cf,c4⟩:=aa HC _ w2 HS2;rotate_left)
    ·exact ⟨rfl,.inl ⟨rfl,hide ((aa Mx).trans (aa HB2)),hide (aa HOM (aa jh))⟩⟩
    ·go_roundw
     case rel=>
      refine ⟨k+1,_,by omega,by go_num,hide rfl,hide fun y=>?_,HS2⟩
      rw [aa HVS y]
      simp only [hlg,true_and]
     case measure=>simp [intOf];omega
   | some e=>
    rw [hlg] at Xv
    have Xv:Hid (Calls Tryz.prog 72 #[.pointer (some ⟨sb,0,none⟩),.int .i64 (k:Int)] wr fun x w'=>(x=vF 7 0/\Hid (Below b0 (w.alloc (.cells #[.int .i64 0,.int .i64 0] 72)) w')/\Hid (Aq Bs Bd (fun z=>Vk z\/sP q0 L k z)))\/(x=.returned (.tuple #[.int .i64 (e:Int),.bool true])/\Hid (kV Bs G q0 n0 Bd (fun z=>Vk z\/sP q0 L k z) (w.alloc (.cells #[.int .i64 0,.int .i64 0] 72)) w' b0 mb tb (fun k=>KP k\/k=w.heap.size)))):=Xv
    clear HL
    go_wp2_with (go_at_call 72;refine (aa Xv).mono ?_;clear Xv;rintro x w2 (⟨rfl,HB2,jh⟩ | ⟨rfl,HS2⟩);rotate_left;clear c0 c1 cf c4;obtain ⟨c0,c1,cf,c4⟩:=aa HC _ w2 HS2;rotate_left)
    ·exact ⟨rfl,.inl ⟨rfl,hide ((aa Mx).trans (aa HB2)),hide (aa HOM (aa jh))⟩⟩
    ·obtain ⟨k0,k1⟩:=G5 (x:=.int .i64 (k:Int)) (y:=.int .i64 (e:Int)) c0 c1
     refine Fg rfl rfl rfl k0 k1 (.inr ⟨rfl,kV.fin HSV (kV.congr HS2 fun y=>?_)⟩)
     rw [aa HVS y,hlg]
     simp
  ·have LY:¬ (k:Int)<=(L.length:Int):=by omega
   rw [Am hlt]
   clear HL
   go_wp2_with fail
   rw [aa HFR,Am hlt]
   obtain ⟨k0,k1⟩:=G5 (x:=.int .i64 0) (y:=.int .i64 0) c0 c1
   refine Fg rfl rfl rfl k0 k1 (.inr ⟨rfl,kV.fin HSV (kV.congr Al fun y=>?_)⟩)
   rw [aa X3 y]
   exact ⟨.inl,fun q=>q.elim id fun r=>absurd r (aaj hlt y)⟩
theorem acz {q:Tm} {L:List Int} {b:Nat}:∀ {k e:Nat},KF q L b k=some e->b<=e/\e<b+k:=by
 intro k
 induction k with
 | zero=>intro e h;cases h
 | succ k ih=>
  intro e h
  rw [KF] at h
  split at h
  ·injection h with h;subst h;omega
  ·have:=ih h;omega
theorem ad3 {q:Tm} {L:List Int} {b e:Nat} (hb:b<=L.length) (h:Sq q L b=some e):b<=e/\e<=L.length:=by
 have:=acz h
 omega
theorem acA {q:Tm} {L:List Int}:∀ {f b x e:Nat},b+f<=L.length+1->frS q L f b=some (x,e)->b<=x/\x<=e/\e<=L.length:=by
 intro f
 induction f with
 | zero=>intro b x e _ h;cases h
 | succ f ih=>
  intro b x e hb h
  rw [frS] at h
  split at h
  ·rename_i e' hl
   injection h with h
   injection h with h1 h2
   subst h1;subst h2
   have:=ad3 (by omega) hl
   omega
  ·have:=ih (b:=b+1) (by omega) h
   omega
theorem qI {q:Tm} {L:List Int} {b x e:Nat} (hb:b<=L.length+1) (h:pV q L b=some (x,e)):b<=x/\x<=e/\e<=L.length:=acA (by omega) h
def eaS (q:Tm) (L:List Int):Nat->Nat->List (Nat×Nat)
 | 0,_=>[]
 | f+1,b=>match pV q L b with
  | none=>[]
  | some p=>p::eaS q L f (max (p.1+1) p.2)
def eaV (q:Tm) (L:List Int):Nat->Nat->qQ
 | 0,_=>fun _=>False
 | f+1,b=>fun y=>vI q L b y\/∃ p,pV q L b=some p/\eaV q L f (max (p.1+1) p.2) y
theorem Lu {q:Tm} {L:List Int}:∀ (f f' b:Nat),b<=L.length+1->L.length+2 - b<=f->L.length+2 - b<=f'->eaS q L f b=eaS q L f' b/\∀ y,eaV q L f b y↔eaV q L f' b y:=by
 intro f
 induction f with
 | zero=>intro f' b h1 h2;omega
 | succ f ih=>
  intro f' b h1 h2 h3
  obtain ⟨f',rfl⟩:∃ g,f'=g+1:=⟨f' - 1,by omega⟩
  rw [eaS,eaS]
  cases hf:pV q L b with
  | none=>exact ⟨rfl,fun y=>by simp [eaV,hf]⟩
  | some p=>
   obtain ⟨x,e⟩:=p
   obtain ⟨a1,a2,a3⟩:=qI h1 hf
   have:=ih f' (max (x+1) e) (by omega) (by omega) (by omega)
   refine ⟨by dsimp only;rw [this.1],fun y=>?_⟩
   simp only [eaV,hf,Option.some.injEq]
   refine or_congr Iff.rfl ⟨?_,?_⟩<;>rintro ⟨p,rfl,h⟩
   ·exact ⟨_,rfl,(this.2 y).1 h⟩
   ·exact ⟨_,rfl,(this.2 y).2 h⟩
def Hz (q:Tm) (L:List Int) (b:Nat):List (Nat×Nat):=eaS q L (L.length+2 - b) b
def Lx (q:Tm) (L:List Int) (b:Nat):qQ:=eaV q L (L.length+2 - b) b
theorem Dx {q:Tm} {L:List Int} {b:Nat} (h:pV q L b=none):Hz q L b=[]:=by
 unfold Hz
 cases L.length+2 - b with
 | zero=>rfl
 | succ f=>rw [eaS,h]
theorem sQ {q:Tm} {L:List Int} {b:Nat} (hb:b<=L.length+1) (h:pV q L b=none) (y:Tm):Lx q L b y↔vI q L b y:=by
 unfold Lx
 rw [show L.length+2 - b=(L.length+1 - b)+1 from by omega]
 simp [eaV,h]
theorem Dy {q:Tm} {L:List Int} {b:Nat} {p:Nat×Nat} (hb:b<=L.length+1) (h:pV q L b=some p):Hz q L b=p::Hz q L (max (p.1+1) p.2):=by
 obtain ⟨a1,a2,a3⟩:=qI (x:=p.1) (e:=p.2) hb h
 unfold Hz
 rw [show L.length+2 - b=(L.length+1 - b)+1 from by omega,eaS,h]
 dsimp only
 rw [(Lu (q:=q) (L:=L) (L.length+1 - b) (L.length+2 - max (p.1+1) p.2) (max (p.1+1) p.2) (by omega) (by omega) (by omega)).1]
theorem p8 {q:Tm} {L:List Int} {b:Nat} {p:Nat×Nat} (hb:b<=L.length+1) (h:pV q L b=some p) (y:Tm):Lx q L b y↔(vI q L b y\/Lx q L (max (p.1+1) p.2) y):=by
 obtain ⟨a1,a2,a3⟩:=qI (x:=p.1) (e:=p.2) hb h
 have:=(Lu (q:=q) (L:=L) (L.length+1 - b) (L.length+2 - max (p.1+1) p.2) (max (p.1+1) p.2) (by omega) (by omega) (by omega)).2 y
 unfold Lx
 rw [show L.length+2 - b=(L.length+1 - b)+1 from by omega]
 simp only [eaV,h,Option.some.injEq]
 refine or_congr Iff.rfl ⟨?_,fun h=>⟨p,rfl,this.2 h⟩⟩
 rintro ⟨p',rfl,h⟩
 exact this.1 h
theorem Xw {w:World} {t:TB} {T:List Te} {N S C:List (Value×Value)} (h:aX w t T N S C) {k:Nat} {cur:Array Value} {z:Nat×Nat} (hgr:w.heap[k]? = some (.cells cur 72 z)):¬ TF t k:=by
 rintro (rfl | rfl | rfl | rfl | e)
 ·have:=h.tb;rw [hgr] at this;injection this with q;injection q with _ q;exact absurd q (by decide)
 ·have:=h.nb;rw [hgr] at this;cases this
 ·have:=h.sb;rw [hgr] at this;cases this
 ·have:=h.cb;rw [hgr] at this;cases this
 ·obtain ⟨_,hx | ⟨g2,cap2,aey,hv2,_,hg2,_⟩⟩:=h.row
  ·have:t.ta=none:=by injection hx.1
   simp [TB.row,this] at e
  ·injection hv2 with e2
   simp [TB.row,e2] at e
   subst e
   rw [hgr] at hg2
   injection hg2 with q
   injection q with _ q
   exact absurd q (by decide)
section
variable {Bs:List Int} {G:List Gx} {q0:Tm} {n0:Nat} {Bd:Int} {V V2:qQ} {w0 w w':World} {b0 sb mb tb:Nat} {KP KP':Nat->Prop}
theorem kV.grow {row:Option Nat} (h:Hid (kV Bs G q0 n0 Bd V w0 w b0 mb tb KP)) (hg:w.grownBy w' row) (hr:∀ k,row=some k->b0<=k/\¬ KP k/\∃ cur z,w.heap[k]? = some (.cells cur 72 z)):Hid (kV Bs G q0 n0 Bd V w0 w' b0 mb tb KP):=by
 obtain ⟨t,T,S,C,M,h1,h2,h3,h4,h5⟩:=(aa h).ex
 have g:=aa h1
 have hbel:Below b0 w w':=⟨hg.os,hg.tape,hg.output,hg.size,fun k hk=>hg.block k (Nat.lt_of_lt_of_le hk g.size) fun e=>by have:=(hr k e.symm).1;omega⟩
 refine ⟨t,T,S,C,M,hide ⟨⟨g.sz.tab.move (fun k hk hl=>hg.block k hl fun e=>?_),g.sz.ti,⟨g.sz.cv.1,fun p hp=>?_⟩,g.sz.sv⟩,g.met.move (hg.block _ g.mlt fun e=>?_),g.Sn,g.apart,fun k hk=>?_,fun k hk=>?_,g.foot,g.XZ,Nat.le_trans g.size hg.size,g.below.trans hbel⟩,h2,h3,h4,h5⟩
 ·obtain ⟨-,-,cur,z,e'⟩:=hr k e.symm
  exact Xw g.sz.tab e' hk
 ·obtain ⟨n,g1,cap,l,y,e,a1,a2,a3,a4⟩:=g.sz.cv.2 p hp
  obtain ⟨cur',hg'⟩:=a4.block
  refine ⟨n,g1,cap,l,y,e,a1,a2,a3,a4.move (hg.block g1 a4.lt fun e=>?_)⟩
  obtain ⟨-,-,cur,z,e'⟩:=hr g1 e.symm
  rw [hg'] at e'
  injection e' with e'
  injection e' with _ e'
  exact absurd e' (by decide)
 ·obtain ⟨-,-,cur,z,e'⟩:=hr mb e.symm
  rw [g.met.at_] at e'
  cases e'
 ·obtain ⟨a1,a2,a3⟩:=g.yE k hk
  exact ⟨Nat.lt_of_lt_of_le a1 hg.size,a2,a3⟩
 ·exact (hg.block k (g.yE k hk).1 fun e=>(hr k e.symm).2.1 hk).trans (g.keep k hk)
theorem kV.re (h:Hid (kV Bs G q0 n0 Bd V w0 w b0 mb tb KP)) (hk:∀ k,KP' k->KP k\/∃ cur z,w.heap[k]? = some (.cells cur 72 z)):Hid (kV Bs G q0 n0 Bd V w w b0 mb tb KP'):=by
 obtain ⟨t,T,S,C,M,h1,h2,h3,h4,h5⟩:=(aa h).ex
 have g:=aa h1
 refine ⟨t,T,S,C,M,hide ⟨g.sz,g.met,g.Sn,g.apart,fun k hp=>?_,fun _ _=>rfl,g.foot,g.XZ,g.size,Below.refl _ _⟩,h2,h3,h4,h5⟩
 rcases hk k hp with hk | ⟨cur,z,e⟩
 ·exact g.yE k hk
 ·refine ⟨(Array.getElem?_eq_some_iff.1 e).1,Xw g.sz.tab e,fun q=>?_⟩
  subst q
  rw [g.met.at_] at e
  cases e
theorem kV.under (h:Hid (kV Bs G q0 n0 Bd V w0 w b0 mb tb KP)) (h':Hid (kV Bs G q0 n0 Bd V2 w w' b0 mb tb KP')) (hk:∀ k,KP k->KP' k):Hid (kV Bs G q0 n0 Bd V2 w0 w' b0 mb tb KP):=by
 obtain ⟨t,T,S,C,M,h1,h2,h3,h4,h5⟩:=(aa h').ex
 have g:=aa h1
 exact ⟨t,T,S,C,M,hide ⟨g.sz,g.met,g.Sn,g.apart,fun k hp=>g.yE k (hk k hp),fun k hp=>(g.keep k (hk k hp)).trans ((aa h).yE hp).2,g.foot,g.XZ,g.size,(aa h).below.trans g.below⟩,h2,h3,h4,h5⟩
theorem vv.re {L:List Int} {ao:Option Addr} {cap:Nat} (ha:Hid (vv w0 sb mb tb Bd n0 L ao cap KP)) (h:Hid (kV Bs G q0 n0 Bd V w0 w b0 mb tb KP)) (hk:∀ k,KP k->KP' k):Hid (vv w sb mb tb Bd n0 L ao cap KP'):=by
 have a:=aa ha
 have mv:∀ {k j:Nat} {x:Value},KP k->w0.cell? ⟨k,j,none⟩=some x->w.cell? ⟨k,j,none⟩=some x:=fun {k j x} hk hx=>by
  rw [World.cell?_of_block (a:=⟨k,j,none⟩) ((aa h).yE hk).2]
  exact hx
 refine ⟨mv a.kp a.c0,mv a.kp a.c1,mv a.kp a.c2,mv a.kp a.c3,mv a.kp a.c4,hk _ a.kp,fun k hl=>?_⟩
 obtain ⟨g,e,h1,h2⟩:=a.row k hl
 exact ⟨g,e,hk _ h1,mv h1 h2⟩
end
theorem aak:(Tryz.prog.info? 72).map (fun i=>(i.zero,i.size,i.bytes))=some (some (.agg #[.int .i64 0,.int .i64 0]),2,16):=by kernel_rfl
theorem aal {ts e:TypeId} {z:Value} {size bytes:Nat} (hu:Tryz.prog.underlying ts=some (.slice e)) (hinfo:(Tryz.prog.info? e).map (fun i=>(i.zero,i.size,i.bytes))=some (some z,size,bytes)) (hzs:z.cells.size=size) (hsz:0<size) (hby:bytes<=1000)
  {ops:Array Oper} {rest:List Oper} {o:Oper} {a:Act} {Q:Exit->Act->World->Prop} (B:Nat) (wr:World) (n:Nat) (xs news:List Value) (v:Value) (s x:Operand) (hg:o.guard=none)
  (hop:o.op=.call { callee:=.builtin .append,args:=#[s,x],argTypes:=#[ts,ts] }) (hs:a.eval s=v) (H:Nat) (hH:wr.heap.size=H) (hx:a.eval x=.slice (some ⟨H,0,none⟩) 1 1)
  (ho:Hid (wr.ownsRow B e size v n xs)) (hB:B<=wr.heap.size) (hl:n<=100000000000) (hnl:news.length=size) (hn1:∀ u∈news,u.oneCell'=true)
  (K:∀ g cap w',Hid (w'.ownsRow B e size (.slice (some ⟨g,0,none⟩) (n+1) cap) (n+1) (xs++news))->Hid (wr.grownBy w' v.ownBlock)->wpList Tryz.prog ops Q rest (a.put o.dst (.slice (some ⟨g,0,none⟩) (n+1) cap)) w') :
  wpList Tryz.prog ops Q (o::rest) a (wr.alloc (.cells news.toArray e)):=by
 obtain ⟨i0,hi,hz0,hz1,hz2⟩:=info_parts hinfo
 subst hH
 have ho':=aa ho
 refine wpList_append_own _ hg s x ts hop B e i0 z size bytes hu hi hz0 hz1 hz2 hzs hsz _ _ _ hs (ho'.alloc _) ⟨wr.heap.size,0,none⟩ 1 1 news hx (by rw [hnl];omega) (bz wr news _) hn1 (by unfold maxLen;omega) (Nat.le_trans (Nat.mul_le_mul_left _ hby) (by omega)) (by simp;omega) ?_
 intro v' w' h1 h2 _
 obtain ⟨ao,cap,rfl,hv⟩:=aN h1
 obtain ⟨g,rfl,-⟩:=hv (by omega)
 have hb:Below wr.heap.size wr (wr.alloc (.cells news.toArray e)):=(Below.refl _ _).alloc (Nat.le_refl _) _
 exact K g cap w' h1 ⟨h2.os.trans hb.os,h2.tape.trans hb.tape,h2.output.trans hb.output,Nat.le_trans hb.size h2.size,fun k hk hn=>(h2.block k (Nat.lt_of_lt_of_le hk hb.size) hn).trans (hb.block k hk)⟩
def TC (l:List (Nat×Nat)):List Value:=l.flatMap fun p=>[.int .i64 (p.1:Int),.int .i64 (p.2:Int)]
theorem aam (l:List (Nat×Nat)) (p:Nat×Nat):TC (l++[p])=TC l++[.int .i64 (p.1:Int),.int .i64 (p.2:Int)]:=by simp [TC]
def EaO (Bs:List Int) (G:List Gx) (q0:Tm) (n0:Nat) (Bd:Int) (V:qQ) (w:World) (b0 mb tb:Nat) (KP:Nat->Prop) (l:List (Nat×Nat)) (e:Ending) (w':World):Prop:=
 (e=vF 7 0/\Hid (Below b0 w w')/\Hid (Aq Bs Bd V))\/∃ v,e=.returned v/\Hid (w'.ownsRow w.heap.size 72 2 v l.length (TC l))/\Hid (kV Bs G q0 n0 Bd V w w' b0 mb tb KP)
end Go.Proofs.YtfolanohokflkaaGreatDoor
