import Derived.Test.YtfolanohokflkaaGreatDoorSpA
import Derived.Test.YtfolanohokflkaaGreatDoorSoN
import Derived.Test.YtfolanohokflkaaGreatDoorClsB
import Derived.WalkKit
import Derived.WalkSpells
import Derived.WalkLawsBesides
import Derived.WalkMore
import Derived.Deep.QuietTactic
import Derived.BigQuiet
namespace Go.Proofs.YtfolanohokflkaaGreatDoor
open Go.RowKit
open Classical in
noncomputable def gH (T:List Te) (k:Bool) (n:Nat):List Nat:=if h:∃ l,j6 T k n l then h.choose else []
theorem Xx {T:List Te} {k:Bool} {n:Nat} {l:List Nat} (h:j6 T k n l):gH T k n=l:=by
 unfold gH
 rw [dif_pos ⟨l,h⟩]
 exact (Exists.choose_spec (⟨l,h⟩:∃ l,j6 T k n l)).uniq h
theorem zA {T:List Te} {k:Bool} {n:Nat} {t:Tm} (h:Rp T n t):j6 T k n (gH T k n):=by
 obtain ⟨l,hl⟩:=j6.rp (k:=k) h
 rw [Xx hl];exact hl
theorem xK {T:List Te} {k:Bool}:∀ {l:List Nat},(∀ n∈l,j6 T k n (gH T k n))->I7 T k l (l.flatMap (gH T k))
 | [],_=>.nil
 | n::l,h=>by
  rw [List.flatMap_cons]
  exact .cons (h n (List.mem_cons_self ..)) (xK fun m hm=>h m (List.mem_cons_of_mem _ hm))
def VY (T:List Te) (m:Nat):ByteArray:=match T[m]? with
 | some x=>x.1.st
 | none=>⟨#[]⟩
theorem Jf {B g:Nat} {w wr w1:World} (hb:Below B w wr) (hg:wr.grownBy w1 (some g)) (hB:B<=g) (hs:B<=wr.heap.size):Below B w w1:=
 ⟨hg.os.trans hb.os,hg.tape.trans hb.tape,hg.output.trans hb.output,Nat.le_trans hb.size hg.size,fun k hk=>(hg.block k (by omega) (fun e=>by injection e with e;omega)).trans (hb.block k hk)⟩
theorem Qy {ops:Array Oper} {rest:List Oper} {o:Oper} {a:Act} {Q:Exit->Act->World->Prop} (B B':Nat) (w wr:World) (zs ys:List Int) (v y:Value) (s x:Operand) (hg:o.guard=none)
  (hop:o.op=.call { callee:=.builtin .append,args:=#[s,x],argTypes:=#[31,31] }) (hs:a.eval s=v) (hx:a.eval x=y)
  (ho:Hid (wr.ownsRow B 3 1 v zs.length (ints zs))) (ho2:Hid (wr.ownsRow B' 3 1 y ys.length (ints ys))) (hb:Hid (Below B w wr)) (hB:B<=wr.heap.size) (hl:zs.length+ys.length<=1000000000000)
  (K:∀ ao cap w',Hid (w'.ownsRow B 3 1 (.slice ao (zs++ys).length cap) (zs++ys).length (ints (zs++ys)))->Hid (Below B w w')->wpList Tryz.prog ops Q rest (a.put o.dst (.slice ao (zs++ys).length cap)) w') :
  wpList Tryz.prog ops Q (o::rest) a wr:=by
 obtain ⟨i0,hi,hz0,hz1,hz2⟩:=info_parts jK
 have h1:∀ u∈ints ys,u.oneCell'=true:=by intro u hu;obtain ⟨z,_,rfl⟩:=List.mem_map.1 hu;rfl
 refine Il hg s x 31 hop B B' 3 i0 (.int .i64 0) 1 8 Tryz.underlying31 hi hz0 hz1 hz2 rfl (by decide) v y _ _ _ _ hs hx (aa ho) (aa ho2) h1 (by unfold maxLen;omega) (by omega) hB ?_
 intro v' w' h2 h3
 have h4:w'.ownsRow B 3 1 v' (zs++ys).length (ints (zs++ys)):=by
  rw [show ints (zs++ys)=ints zs++ints ys from by simp [ints],List.length_append];exact h2
 obtain ⟨ao,cap,rfl,-⟩:=aN h4
 exact K ao cap w' h4 (below_grown (aa hb) (aa ho) h3 hB)
theorem TZ {l:List Nat} (x:Int) (h:x∈aA l):0<=x:=by
 unfold aA at h
 obtain ⟨m,_,rfl⟩:=List.mem_map.1 h
 simp
theorem Xy {c:List Int} (h:∀ x∈c,0<=x):∃ L:List Nat,aA L=c:=by
 refine ⟨c.map Int.toNat,?_⟩
 unfold aA
 rw [List.map_map]
 have:∀ x∈c,((fun n:Nat=>Int.ofNat n) ∘ Int.toNat) x=x:=fun x hx=>by
  have:=h x hx
  simp only [Function.comp,Int.ofNat_eq_natCast]
  omega
 rw [List.map_congr_left this];simp
theorem rO {l:List Nat} {m:Nat}:(m:Int)∈aA l↔m∈l:=by
 unfold aA
 simp only [List.mem_map,Int.ofNat_eq_natCast]
 constructor
 ·rintro ⟨a,ha,e⟩
  have:a=m:=by omega
  subst this;exact ha
 ·intro h;exact ⟨m,h,rfl⟩
theorem Eh (L0:List Nat):∃ L:List Nat,aA L=Lib.compact (rM (aA L0))/\L.Pairwise (· < ·)/\∀ m,m∈L↔m∈L0:=by
 have hcs:=mI _ (BA (aA L0))
 obtain ⟨L,LQ⟩:=Xy (c:=Lib.compact (rM (aA L0))) fun x hx=>TZ x (xI.1 ((hcs.2.1 x).1 hx))
 refine ⟨L,LQ,?_,fun m=>?_⟩
 ·have:=hcs.1
  rw [<-LQ] at this
  unfold aA at this
  rw [List.pairwise_map] at this
  exact this.imp fun q=>by simpa using q
 ·rw [<-rO,LQ,hcs.2.1,xI,rO]
section
variable {w:World} {t:TB} {T:List Te} {S C:List (Value×Value)}
set_option maxRecDepth 100000 in
set_option maxHeartbeats 8000000 in
theorem yu {k:Bool} {l:List Nat} {g0 cap0:Nat} (h:Hid (aZ w t T (ak T) S C)) (hw:tX T) (hsp:∀ n∈l,j6 T k n (gH T k n)/\(gH T k n).length<=1000000) (hne:l≠[]) (hln:l.length<=1000000)
  (hc:∀ j x,(aA l)[j]? = some x->w.cell? ⟨g0,j,none⟩=some (.int .i64 x)) (hg0:g0<w.heap.size) (hL0:(l.flatMap (gH T k)).length<=100000000000) (hmem:∀ m∈l.flatMap (gH T k),m<T.length) {L:List Nat} (LQ:aA L=Lib.compact (rM (aA (l.flatMap (gH T k))))) :
  Calls Tryz.prog 110 #[.pointer (some ⟨t.tb,0,none⟩),.int .i64 (kk k),.slice (some ⟨g0,0,none⟩) l.length cap0] w fun e w'=>∃ (a1 a2:Option Addr) (c1 c2:Nat),e=.returned (.tuple #[.slice a1 (L.filter fun m=>!aX T m).length c1,.slice a2 (L.filter fun m=>aX T m).length c2])/\Hid (w'.ownsRow w.heap.size 3 1 (.slice a1 (L.filter fun m=>!aX T m).length c1) (L.filter fun m=>!aX T m).length (ints (aA (L.filter fun m=>!aX T m))))/\Hid (w'.ownsRow w.heap.size 61 1 (.slice a2 (L.filter fun m=>aX T m).length c2) (L.filter fun m=>aX T m).length (strs ((L.filter fun m=>aX T m).map (VY T))))/\Hid (Below w.heap.size w w'):=by
 have HSP:=hide hsp
 have HLE:=hide LQ
 have HME:=hide hmem
 have yT:=hide hc
 have VZ:=hide hL0
 have HPL:Hid (∀ k',k'<=l.length->((l.take k').flatMap (gH T k)).length<=100000000000):=fun k' _=>by
  have e:l=l.take k'++l.drop k':=(List.take_append_drop k' l).symm
  have:=aa VZ
  rw [e,List.flatMap_append,List.length_append] at this
  omega
 have hl0:0<l.length:=by cases l with
  | nil=>exact absurd rfl hne
  | cons _ _=>simp
 have HNE:Hid (l.flatMap (gH T k)≠[]):=by
  obtain ⟨a,r,rfl⟩:∃ a r,l=a::r:=by cases l with
   | nil=>exact absurd rfl hne
   | cons a r=>exact ⟨a,r,rfl⟩
  have:=(hsp a (List.mem_cons_self ..)).1.ne
  intro e
  rw [List.flatMap_cons] at e
  exact this (List.append_eq_nil_iff.1 e).1
 clear hsp hc hL0 hne hmem LQ
 go_enter Tryz.func110,Tryz.ntmps110
 go_wp2_with fail
 go_loopw [8,16] (fun v i wr=>∃ (k':Nat) (ao:Option Addr) (cap:Nat),k'<=l.length/\i=.int .i64 (k':Int)/\v=.slice ao (aA ((l.take k').flatMap (gH T k))).length cap/\Hid (wr.ownsRow w.heap.size 3 1 (.slice ao (aA ((l.take k').flatMap (gH T k))).length cap) (aA ((l.take k').flatMap (gH T k))).length (ints (aA ((l.take k').flatMap (gH T k)))))/\Hid (Below w.heap.size w wr)) (fun _ i _=>l.length - (intOf i).toNat)
 case atStart=>exact ⟨0,none,0,Nat.zero_le _,rfl,rfl,World.ownsRow_nil _ _ _ _,Below.refl _ _⟩
 case round=>
  obtain ⟨k',ao,cap,hk',rfl,rfl,HO,HB⟩:=hrel
  by_cases hlt:k'<l.length
  ·have hx:(aA l)[k']? = some ((l[k']:Nat):Int):=by simp [aA,hlt]
   have cx:=aa yT k' _ hx
   rw [<-(aa HB).cell (p:=⟨g0,k',none⟩) hg0] at cx
   have hsp:=aa HSP l[k'] (List.getElem_mem _)
   have HT:=aZ.below h (aa HB)
   have HSD:=hide (Bv HT hw hsp.1 hsp.2)
   have hsl:=hsp.2
   have VX:Hid ((l.take (k'+1)).flatMap (gH T k)=(l.take k').flatMap (gH T k)++gH T k l[k']):=by
    show _=_
    rw [List.take_succ_eq_append_getElem hlt,List.flatMap_append];simp
   have hpl:=aa HPL k' hk'
   generalize hq:(l.take k').flatMap (gH T k)=pre at *
   generalize hsn:gH T k l[k']=sn at *
   generalize hlk:l[k']=lk at *
   have Y5:(k':Int)<(l.length:Int):=by omega
   clear hx hsp HT
   have hws:w.heap.size<=wr.heap.size:=(aa HB).size
   go_wp2_with (first
    | (go_at_call 153;refine (aa HSD).mono ?_;clear HSD;rintro e w2 ⟨g2,cap2,rfl,lD,HB2⟩;have HO':=hide (own_below (aa HO) (aa HB2) (Nat.le_refl _));have HB':=hide ((aa HB).trans ((aa HB2).mono hws));have hw2:w.heap.size<=w2.heap.size:=Nat.le_trans hws (aa HB2).size;have HO2':Hid (w2.ownsRow wr.heap.size 3 1 (.slice (some ⟨g2,0,none⟩) sn.length cap2) (aA sn).length (ints (aA sn))):=(by show World.ownsRow _ _ _ _ _ _ _;rw [aL];exact lD))
    | (at_builtin;refine Qy w.heap.size wr.heap.size w w2 (aA pre) (aA sn) _ _ (.tmp 20) (.tmp 24) rfl rfl rfl rfl HO' HO2' HB' hw2 (by rw [aL,aL];omega) ?_;intro ao3 gm w3 pQ HB3))
   go_roundw
   case rel=>
    have e2:aA pre++aA sn=aA ((l.take (k'+1)).flatMap (gH T k)):=by rw [aa VX,il]
    rw [e2] at pQ
    exact ⟨k'+1,ao3,gm,by omega,by go_num,by rw [<-e2,List.length_append],pQ,HB3⟩
   case measure=>simp [intOf];omega
  ·obtain rfl:k'=l.length:=by omega
   rw [List.take_length] at HO ⊢
   clear HPL
   generalize abR:l.flatMap (gH T k)=L0 at *
   have adg:=hide abR
   clear abR
   obtain ⟨ao',cap',e',hv⟩:=aN (aa HO)
   have hL0:0<(aA L0).length:=by
    rw [aL]
    cases L0 with
    | nil=>exact absurd rfl (aa HNE)
    | cons _ _=>simp
   injection e' with e1 e2 e3
   subst e1
   subst e3
   obtain ⟨g,rfl,hgb,Qt,-,-⟩:=hv hL0
   have hfl:(aA L0).length<=1000000000000:=by have:=aa VZ;rw [aL];omega
   have fG:=hide (Qx wr g (aA L0).length cap (aA L0) rfl hfl (eO (aa HO) (Nat.zero_le _)))
   have Kq:=hide (fun w2 (ho:w2.ownsRow 0 3 1 (.slice (some ⟨g,0,none⟩) (aA L0).length cap) (aA L0).length (ints (rM (aA L0))))=>FN w2 g (aA L0).length cap (rM (aA L0)) (xJ _) hfl ho (Nat.le_trans (mI _ (BA _)).2.2 (by rw [xJ];exact Nat.le_refl _)))
   have hcs:=mI _ (BA (aA L0))
   have LQ:=aa HLE
   have NP:∀ m,m∈L↔m∈L0:=fun m=>by
    rw [<-rO,LQ,hcs.2.1,xI,rO]
   have HLM:=hide NP
   have Y6:L.length<=100000000000:=by
    have:=hcs.2.2
    rw [<-LQ,xJ,aL,aL] at this
    have h2:=aa VZ
    omega
   rw [<-LQ] at Kq
   clear NP hcs LQ
   have hws:w.heap.size<=wr.heap.size:=(aa HB).size
   go_wp2_with (first
    | (go_at_call 154;refine (aa fG).mono ?_;clear fG;rintro e w2 ⟨rfl,ho2,hg2⟩;have wJ:=hide (aa Kq w2 ho2);clear Kq;have HB2:=hide (Jf (aa HB) hg2 hgb hws);clear ho2 hg2)
    | (go_at_call 155;refine (aa wJ).mono ?_;clear wJ;rintro e w3 ⟨rfl,ho3,hg3⟩;have pQ:=hide ho3;have HB3:=hide (Jf (aa HB2) hg3 hgb (aa HB2).size);clear ho3 hg3))
   have HT3:=aZ.below h (aa HB3)
   have hL3:(aA L).length=L.length:=aL L
   rw [hL3] at pQ ⊢
   have hw3:w.heap.size<=w3.heap.size:=(aa HB3).size
   have abS:g<w3.heap.size:=p_ (by rw [<-aL L] at pQ;exact aa pQ)
   have HCX:Hid (∀ j x,(aA L)[j]? = some x->w3.cell? ⟨g,j,none⟩=some (.int .i64 x)):=fun j x hj=>by
    obtain ⟨ao9,adh,e9,hv9⟩:=aN (aa pQ)
    have hjl:j<L.length:=by have:=(List.getElem?_eq_some_iff.1 hj).1;rwa [aL] at this
    injection e9 with e10
    obtain ⟨g9,e11,-,-,hc9,-⟩:=hv9 (by omega)
    rw [e11] at e10
    injection e10 with e10
    injection e10 with e10
    subst e10
    rw [hc9 j (by omega)]
    unfold ints
    rw [List.getElem?_map,hj];rfl
   have HK:Hid (∀ m∈L,m<T.length):=fun m hm=>aa HME m ((aa HLM m).1 hm)
   have hgo:w3.heap.size=w3.heap.size:=rfl
   clear HME HSP yT VZ HNE HO HB HB2 hgo hws hgb Qt
   go_loopw [6,7,32] (fun v1 v2 i wx=>∃ (k':Nat),k'<=L.length/\i=.int .i64 (k':Int)/\Hid (wx.ownsRow w3.heap.size 3 1 v1 ((L.take k').filter fun m=>!aX T m).length (ints (aA ((L.take k').filter fun m=>!aX T m))))/\Hid (wx.ownsRow w3.heap.size 61 1 v2 ((L.take k').filter fun m=>aX T m).length (strs (((L.take k').filter fun m=>aX T m).map (VY T))))/\Hid (Below w3.heap.size w3 wx)) (fun _ _ i _=>L.length - (intOf i).toNat)
   case atStart=>exact ⟨0,Nat.zero_le _,rfl,World.ownsRow_nil _ _ _ _,World.ownsRow_nil _ _ _ _,Below.refl _ _⟩
   case round=>
    obtain ⟨k',hk',rfl,HM,HST,Xz⟩:=hrel
    have adi:w3.heap.size<=wr.heap.size:=(aa Xz).size
    by_cases hlt:k'<L.length
    ·have hxL:(aA L)[k']? = some ((L[k']:Nat):Int):=by simp [aA,hlt]
     have cx:=aa HCX k' _ hxL
     rw [<-(aa Xz).cell (p:=⟨g,k',none⟩) abS] at cx
     have T9:=aa HK L[k'] (List.getElem_mem _)
     have hTk:∀ p:Nat->Bool,(L.take (k'+1)).filter p=(L.take k').filter p++(if p L[k']=true then [L[k']] else []):=fun p=>by
      rw [List.take_succ_eq_append_getElem hlt,List.filter_append]
      cases hp:p L[k']<;>simp [hp]
     have VX:=hide hTk
     have hl1:((L.take k').filter fun m=>!aX T m).length<=100000000000:=Nat.le_trans (List.length_filter_le _ _) (by rw [List.length_take];omega)
     have hl2:((L.take k').filter fun m=>aX T m).length<=100000000000:=Nat.le_trans (List.length_filter_le _ _) (by rw [List.length_take];omega)
     obtain ⟨x,hx⟩:∃ x,T[L[k']]? = some x:=⟨_,List.getElem?_eq_getElem T9⟩
     have HTx:=aZ.below HT3 (aa Xz)
     obtain ⟨gt,q2,a0,a1,a2,a3,a4⟩:=(aa HTx).at hx
     have hsb:aX T L[k']=decide (x.1.kd=0):=by unfold aX;rw [hx]
     have hst:VY T L[k']=x.1.st:=by unfold VY;rw [hx]
     generalize L[k']=m at *
     have YI:(m:Int)<(T.length:Int):=by omega
     have hm0:(0:Int)<=(m:Int):=by omega
     have Y5:(k':Int)<(L.length:Int):=by omega
     clear hxL hTk hx HTx
     generalize x.1.kd=xk at *
     generalize x.1.st=xs at *
     generalize x.1.fi=xf at *
     generalize x.1.se=xe at *
     generalize x.2=xb at *
     obtain ⟨wm,Zt⟩:∃ wm,wr.alloc (.cells #[.int .i64 xk,.string xs,.int .i64 xf,.int .i64 xe,.bool xb] 161)=wm:=⟨_,rfl⟩
     have HBm:Hid (Below w3.heap.size w3 wm):=by rw [<-Zt];exact (aa Xz).alloc (aa Xz).size _
     have HMm:=hide ((aa HM).alloc (.cells #[.int .i64 xk,.string xs,.int .i64 xf,.int .i64 xe,.bool xb] 161))
     have HSm:=hide ((aa HST).alloc (.cells #[.int .i64 xk,.string xs,.int .i64 xf,.int .i64 xe,.bool xb] 161))
     rw [Zt] at HMm HSm
     have q0:wm.cell? ⟨wr.heap.size,0,none⟩=some (.int .i64 xk):=by rw [<-Zt];exact aB rfl 0 rfl
     have q1:wm.cell? ⟨wr.heap.size,1,none⟩=some (.string xs):=by rw [<-Zt];exact aB rfl 1 rfl
     have abT:w3.heap.size<=wm.heap.size:=(aa HBm).size
     by_cases hk0:xk=0
     ·subst hk0
      rw [decide_eq_true rfl] at hsb
      go_wp2_with (at_builtin;refine mH Tryz.underlying176 Xv rfl (by decide) (by decide) w3.heap.size w3 wm _ _ [.string xs] _ (.tmp 47) (.tmp 51) rfl rfl rfl wm.heap.size rfl rfl HSm HBm abT hl2 rfl (by intro u hu;simp at hu;rw [hu];rfl) ?_;intro g3 gm w4 Fx CV HK4)
      go_roundw
      case rel=>
       refine ⟨k'+1,by omega,by go_num,?_,?_,CV⟩
       ·have e2:=aa VX (fun m=>!aX T m)
        rw [hsb] at e2
        simp only [Bool.not_true,Bool.false_eq_true,if_false,List.append_nil] at e2
        show World.ownsRow _ _ _ _ _ _ _
        rw [e2]
        exact aa HK4 _ _ _ _ _ _ (by decide) (aa HMm)
       ·have e2:=aa VX (fun m=>aX T m)
        rw [if_pos hsb] at e2
        show World.ownsRow _ _ _ _ _ _ _
        rw [e2,List.length_append,List.map_append,show strs (((L.take k').filter fun m=>aX T m).map (VY T)++[m].map (VY T))=strs (((L.take k').filter fun m=>aX T m).map (VY T))++[.string xs] from by simp [strs,hst]]
        exact Fx
      case measure=>simp [intOf];omega
     ·rw [decide_eq_false hk0] at hsb
      have hnk:(xk==0)=false:=by simpa using hk0
      go_wp2_with (at_builtin;refine mH Tryz.underlying31 jK rfl (by decide) (by decide) w3.heap.size w3 wm _ _ [.int .i64 (m:Int)] _ (.tmp 53) (.tmp 55) rfl rfl rfl wm.heap.size rfl rfl HMm HBm abT hl1 rfl (by intro u hu;simp at hu;rw [hu];rfl) ?_;intro g3 gm w4 Fx CV HK4)
      go_roundw
      case rel=>
       refine ⟨k'+1,by omega,by go_num,?_,?_,CV⟩
       ·have e2:=aa VX (fun m=>!aX T m)
        rw [hsb] at e2
        simp only [Bool.not_false,if_true] at e2
        show World.ownsRow _ _ _ _ _ _ _
        rw [e2,List.length_append,il,show ints (aA ((L.take k').filter fun m=>!aX T m)++aA [m])=ints (aA ((L.take k').filter fun m=>!aX T m))++[.int .i64 (m:Int)] from by simp [ints,aA]]
        exact Fx
       ·have e2:=aa VX (fun m=>aX T m)
        rw [if_neg (by rw [hsb];simp),List.append_nil] at e2
        show World.ownsRow _ _ _ _ _ _ _
        rw [e2]
        exact aa HK4 _ _ _ _ _ _ (by decide) (aa HSm)
      case measure=>simp [intOf];omega
    ·obtain rfl:k'=L.length:=by omega
     rw [List.take_length] at HM HST
     have hb:=(aa HB3).trans ((aa Xz).mono hw3)
     go_wp2_with fail
     obtain ⟨a1,c1,rfl,-⟩:=aN (aa HM)
     obtain ⟨a2,c2,rfl,-⟩:=aN (aa HST)
     refine bodyPost_ret (v:=.tuple #[.slice a1 (L.filter fun m=>!aX T m).length c1,.slice a2 (L.filter fun m=>aX T m).length c2]) ?_ rfl ⟨a1,a2,c1,c2,rfl,eO (aa HM) hw3,eO (aa HST) hw3,hb⟩
     simp [results,Tryz.results110,go_sem]
end
end Go.Proofs.YtfolanohokflkaaGreatDoor
