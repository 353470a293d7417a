import Derived.Test.YtfolanohokflkaaGreatDoorSpA
import Derived.Test.YtfolanohokflkaaGreatDoorSoN
import Derived.Test.YtfolanohokflkaaGreatDoorOnlA
import Derived.WalkKit
import Derived.WalkSpells
import Derived.WalkLawsBesides
import Derived.WalkMore
import Derived.Deep.QuietTactic
import Derived.BigQuiet
import Derived.Shelf.SlicesE.DeleteFunc
import Derived.Test.YtfolanohokflkaaGreatDoorProg
import Derived.Deep.AppendLies
import Derived.Deep.RegionHeld3
import Derived.Test.YtfolanohokflkaaGreatDoorRpG
namespace Go.Proofs.YtfolanohokflkaaGreatDoor
open Go.RowKit
open Classical in
noncomputable def gG (T:List Te) (k:Bool) (n:Nat):List Nat:=if h:∃ l,ky T k n l then h.choose else []
theorem Zb {T:List Te} {k:Bool} {n:Nat} {l:List Nat} (h:ky T k n l):gG T k n=l:=by
 unfold gG
 rw [dif_pos ⟨l,h⟩]
 exact (Exists.choose_spec (⟨l,h⟩:∃ l,ky T k n l)).uniq h
theorem Ag {T:List Te} {k:Bool} {n:Nat} {t:Tm} (h:Rp T n t):ky T k n (gG T k n):=by
 obtain ⟨l,hl⟩:=ky.rp (k:=k) h
 rw [Zb hl];exact hl
theorem yz {T:List Te} {k:Bool}:∀ {l:List Nat},(∀ n∈l,ky T k n (gG T k n))->JX T k l (l.flatMap (gG T k))
 | [],_=>.nil
 | n::l,h=>by
  rw [List.flatMap_cons]
  exact .cons (h n (List.mem_cons_self ..)) (yz fun m hm=>h m (List.mem_cons_of_mem _ hm))
def XX (T:List Te) (m:Nat):ByteArray:=match T[m]? with
 | some x=>x.1.st
 | none=>⟨#[]⟩
theorem J9 {B g:Nat} {w wr w1:World} (hb:Below B w wr) (hg:wr.grownBy w1 (some g)) (hB:B<=g) (hs:B<=wr.heap.size):Below B w w1:=
 ⟨hg.os.trans hb.os,hg.tape.trans hb.tape,hg.output.trans hb.output,Nat.le_trans hb.size hg.size,fun k hk=>(hg.block k (by omega) (fun e=>by injection e with e;omega)).trans (hb.block k hk)⟩
theorem R6 {ops:Array Oper} {rest:List Oper} {o:Oper} {a:Act} {Q:Exit->Act->World->Prop} (B B':Nat) (w wr:World) (zs ys:List Int) (v y:Value) (s x:Operand) (hg:o.guard=none)
  (hop:o.op=.call { callee:=.builtin .append,args:=#[s,x],argTypes:=#[31,31] }) (hs:a.eval s=v) (hx:a.eval x=y)
  (ho:Hid (wr.ownsRow B 3 1 v zs.length (ints zs))) (ho2:Hid (wr.ownsRow B' 3 1 y ys.length (ints ys))) (hb:Hid (Below B w wr)) (hB:B<=wr.heap.size) (hl:zs.length+ys.length<=1000000000000)
  (K:∀ ao cap w',Hid (w'.ownsRow B 3 1 (.slice ao (zs++ys).length cap) (zs++ys).length (ints (zs++ys)))->Hid (Below B w w')->wpList Tryz.prog ops Q rest (a.put o.dst (.slice ao (zs++ys).length cap)) w') :
  wpList Tryz.prog ops Q (o::rest) a wr:=by
 obtain ⟨i0,hi,hz0,hz1,hz2⟩:=info_parts gP
 have h1:∀ u∈ints ys,u.oneCell'=true:=by intro u hu;obtain ⟨z,_,rfl⟩:=List.mem_map.1 hu;rfl
 refine Jo hg s x 31 hop B B' 3 i0 (.int .i64 0) 1 8 Tryz.underlying31 hi hz0 hz1 hz2 rfl (by decide) v y _ _ _ _ hs hx (aa ho) (aa ho2) h1 (by unfold maxLen;omega) (by omega) hB ?_
 intro v' w' h2 h3
 have h4:w'.ownsRow B 3 1 v' (zs++ys).length (ints (zs++ys)):=by
  rw [show ints (zs++ys)=ints zs++ints ys from by simp [ints],List.length_append];exact h2
 obtain ⟨ao,cap,rfl,-⟩:=aN h4
 exact K ao cap w' h4 (below_grown (aa hb) (aa ho) h3 hB)
theorem VC {l:List Nat} (x:Int) (h:x∈ay l):0<=x:=by
 unfold ay at h
 obtain ⟨m,_,rfl⟩:=List.mem_map.1 h
 simp
theorem Zc {c:List Int} (h:∀ x∈c,0<=x):∃ L:List Nat,ay L=c:=by
 refine ⟨c.map Int.toNat,?_⟩
 unfold ay
 rw [List.map_map]
 have:∀ x∈c,((fun n:Nat=>Int.ofNat n) ∘ Int.toNat) x=x:=fun x hx=>by
  have:=h x hx
  simp only [Function.comp,Int.ofNat_eq_natCast]
  omega
 rw [List.map_congr_left this];simp
theorem sF {l:List Nat} {m:Nat}:(m:Int)∈ay l↔m∈l:=by
 unfold ay
 simp only [List.mem_map,Int.ofNat_eq_natCast]
 constructor
 ·rintro ⟨a,ha,e⟩
  have:a=m:=by omega
  subst this;exact ha
 ·intro h;exact ⟨m,h,rfl⟩
theorem E9 (L0:List Nat):∃ L:List Nat,ay L=Lib.compact (sD (ay L0))/\L.Pairwise (· < ·)/\∀ m,m∈L↔m∈L0:=by
 have hcs:=mP _ (Cx (ay L0))
 obtain ⟨L,Nh⟩:=Zc (c:=Lib.compact (sD (ay L0))) fun x hx=>VC x (yw.1 ((hcs.2.1 x).1 hx))
 refine ⟨L,Nh,?_,fun m=>?_⟩
 ·have:=hcs.1
  rw [<-Nh] at this
  unfold ay at this
  rw [List.pairwise_map] at this
  exact this.imp fun q=>by simpa using q
 ·rw [<-sF,Nh,hcs.2.1,yw,sF]
section
variable {w:World} {t:TB} {T:List Te} {S C:List (Value×Value)}
set_option maxRecDepth 100000 in
set_option maxHeartbeats 8000000 in
theorem ze {k:Bool} {l:List Nat} {g0 cap0:Nat} (h:Hid (aX w t T (ak T) S C)) (hw:uI T) (hsp:∀ n∈l,ky T k n (gG T k n)/\(gG T k n).length<=1000000) (hne:l≠[]) (hln:l.length<=1000000)
  (hc:∀ j x,(ay l)[j]? = some x->w.cell? ⟨g0,j,none⟩=some (.int .i64 x)) (hg0:g0<w.heap.size) (hL0:(l.flatMap (gG T k)).length<=100000000000) (hmem:∀ m∈l.flatMap (gG T k),m<T.length) {L:List Nat} (Nh:ay L=Lib.compact (sD (ay (l.flatMap (gG T k))))) :
  Calls Tryz.prog 110 #[.pointer (some ⟨t.tb,0,none⟩),.int .i64 (kk k),.slice (some ⟨g0,0,none⟩) l.length cap0] w fun e w'=>∃ (a1 a2:Option Addr) (c1 c2:Nat),e=.returned (.tuple #[.slice a1 (L.filter fun m=>!aW T m).length c1,.slice a2 (L.filter fun m=>aW T m).length c2])/\Hid (w'.ownsRow w.heap.size 3 1 (.slice a1 (L.filter fun m=>!aW T m).length c1) (L.filter fun m=>!aW T m).length (ints (ay (L.filter fun m=>!aW T m))))/\Hid (w'.ownsRow w.heap.size 61 1 (.slice a2 (L.filter fun m=>aW T m).length c2) (L.filter fun m=>aW T m).length (strs ((L.filter fun m=>aW T m).map (XX T))))/\Hid (Below w.heap.size w w'):=by
 have HSP:=hide hsp
 have HLE:=hide Nh
 have HME:=hide hmem
 have zF:=hide hc
 have XY:=hide hL0
 have HPL:Hid (∀ k',k'<=l.length->((l.take k').flatMap (gG T k)).length<=100000000000):=fun k' _=>by
  have e:l=l.take k'++l.drop k':=(List.take_append_drop k' l).symm
  have:=aa XY
  rw [e,List.flatMap_append,List.length_append] at this
  omega
 have hl0:0<l.length:=by cases l with
  | nil=>exact absurd rfl hne
  | cons _ _=>simp
 have HNE:Hid (l.flatMap (gG T k)≠[]):=by
  obtain ⟨a,r,rfl⟩:∃ a r,l=a::r:=by cases l with
   | nil=>exact absurd rfl hne
   | cons a r=>exact ⟨a,r,rfl⟩
  have:=(hsp a (List.mem_cons_self ..)).1.ne
  intro e
  rw [List.flatMap_cons] at e
  exact this (List.append_eq_nil_iff.1 e).1
 clear hsp hc hL0 hne hmem Nh
 go_enter Tryz.func110,Tryz.ntmps110
 go_wp2_with fail
 go_loopw [8,16] (fun v i wr=>∃ (k':Nat) (ao:Option Addr) (cap:Nat),k'<=l.length/\i=.int .i64 (k':Int)/\v=.slice ao (ay ((l.take k').flatMap (gG T k))).length cap/\Hid (wr.ownsRow w.heap.size 3 1 (.slice ao (ay ((l.take k').flatMap (gG T k))).length cap) (ay ((l.take k').flatMap (gG T k))).length (ints (ay ((l.take k').flatMap (gG T k)))))/\Hid (Below w.heap.size w wr)) (fun _ i _=>l.length - (intOf i).toNat)
 case atStart=>exact ⟨0,none,0,Nat.zero_le _,rfl,rfl,World.ownsRow_nil _ _ _ _,Below.refl _ _⟩
 case round=>
  obtain ⟨k',ao,cap,hk',rfl,rfl,HO,HB⟩:=hrel
  by_cases hlt:k'<l.length
  ·have hx:(ay l)[k']? = some ((l[k']:Nat):Int):=by simp [ay,hlt]
   have cx:=aa zF k' _ hx
   rw [<-(aa HB).cell (p:=⟨g0,k',none⟩) hg0] at cx
   have hsp:=aa HSP l[k'] (List.getElem_mem _)
   have HT:=aX.below h (aa HB)
   have HSD:=hide (Cu HT hw hsp.1 hsp.2)
   have hsl:=hsp.2
   have RX:Hid ((l.take (k'+1)).flatMap (gG T k)=(l.take k').flatMap (gG T k)++gG T k l[k']):=by
    show _=_
    rw [List.take_succ_eq_append_getElem hlt,List.flatMap_append];simp
   have hpl:=aa HPL k' hk'
   generalize hq:(l.take k').flatMap (gG T k)=pre at *
   generalize hsn:gG T k l[k']=sn at *
   generalize hlk:l[k']=lk at *
   have LY:(k':Int)<(l.length:Int):=by omega
   clear hx hsp HT
   have hws:w.heap.size<=wr.heap.size:=(aa HB).size
   go_wp2_with (first
    | (go_at_call 153;refine (aa HSD).mono ?_;clear HSD;rintro e w2 ⟨g2,cap2,rfl,jh,HB2⟩;have HO':=hide (own_below (aa HO) (aa HB2) (Nat.le_refl _));have HB':=hide ((aa HB).trans ((aa HB2).mono hws));have hw2:w.heap.size<=w2.heap.size:=Nat.le_trans hws (aa HB2).size;have HO2':Hid (w2.ownsRow wr.heap.size 3 1 (.slice (some ⟨g2,0,none⟩) sn.length cap2) (ay sn).length (ints (ay sn))):=(by show World.ownsRow _ _ _ _ _ _ _;rw [aO];exact jh))
    | (at_builtin;refine R6 w.heap.size wr.heap.size w w2 (ay pre) (ay sn) _ _ (.tmp 20) (.tmp 24) rfl rfl rfl rfl HO' HO2' HB' hw2 (by rw [aO,aO];omega) ?_;intro ao3 gp w3 qg HB3))
   go_roundw
   case rel=>
    have e2:ay pre++ay sn=ay ((l.take (k'+1)).flatMap (gG T k)):=by rw [aa RX,h_]
    rw [e2] at qg
    exact ⟨k'+1,ao3,gp,by omega,by go_num,by rw [<-e2,List.length_append],qg,HB3⟩
   case measure=>simp [intOf];omega
  ·obtain rfl:k'=l.length:=by omega
   rw [List.take_length] at HO ⊢
   clear HPL
   generalize ads:l.flatMap (gG T k)=L0 at *
   have ae4:=hide ads
   clear ads
   obtain ⟨ao',cap',e',hv⟩:=aN (aa HO)
   have hL0:0<(ay L0).length:=by
    rw [aO]
    cases L0 with
    | nil=>exact absurd rfl (aa HNE)
    | cons _ _=>simp
   injection e' with e1 e2 e3
   subst e1
   subst e3
   obtain ⟨g,rfl,hgb,RY,-,-⟩:=hv hL0
   have hfl:(ay L0).length<=1000000000000:=by have:=aa XY;rw [aO];omega
   have eO:=hide (R5 wr g (ay L0).length cap (ay L0) rfl hfl (dU (aa HO) (Nat.zero_le _)))
   have LV:=hide (fun w2 (ho:w2.ownsRow 0 3 1 (.slice (some ⟨g,0,none⟩) (ay L0).length cap) (ay L0).length (ints (sD (ay L0))))=>GH w2 g (ay L0).length cap (sD (ay L0)) (yx _) hfl ho (Nat.le_trans (mP _ (Cx _)).2.2 (by rw [yx];exact Nat.le_refl _)))
   have hcs:=mP _ (Cx (ay L0))
   have Nh:=aa HLE
   have Po:∀ m,m∈L↔m∈L0:=fun m=>by
    rw [<-sF,Nh,hcs.2.1,yw,sF]
   have HLM:=hide Po
   have aaM:L.length<=100000000000:=by
    have:=hcs.2.2
    rw [<-Nh,yx,aO,aO] at this
    have h2:=aa XY
    omega
   rw [<-Nh] at LV
   clear Po hcs Nh
   have hws:w.heap.size<=wr.heap.size:=(aa HB).size
   go_wp2_with (first
    | (go_at_call 154;refine (aa eO).mono ?_;clear eO;rintro e w2 ⟨rfl,ho2,hg2⟩;have xD:=hide (aa LV w2 ho2);clear LV;have HB2:=hide (J9 (aa HB) hg2 hgb hws);clear ho2 hg2)
    | (go_at_call 155;refine (aa xD).mono ?_;clear xD;rintro e w3 ⟨rfl,ho3,hg3⟩;have qg:=hide ho3;have HB3:=hide (J9 (aa HB2) hg3 hgb (aa HB2).size);clear ho3 hg3))
   have HT3:=aX.below h (aa HB3)
   have hL3:(ay L).length=L.length:=aO L
   rw [hL3] at qg ⊢
   have hw3:w.heap.size<=w3.heap.size:=(aa HB3).size
   have adt:g<w3.heap.size:=qz (by rw [<-aO L] at qg;exact aa qg)
   have HCX:Hid (∀ j x,(ay L)[j]? = some x->w3.cell? ⟨g,j,none⟩=some (.int .i64 x)):=fun j x hj=>by
    obtain ⟨ao9,ae5,e9,hv9⟩:=aN (aa qg)
    have hjl:j<L.length:=by have:=(List.getElem?_eq_some_iff.1 hj).1;rwa [aO] at this
    injection e9 with e10
    obtain ⟨g9,e11,-,-,hc9,-⟩:=hv9 (by omega)
    rw [e11] at e10
    injection e10 with e10
    injection e10 with e10
    subst e10
    rw [hc9 j (by omega)]
    unfold ints
    rw [List.getElem?_map,hj];rfl
   have HK:Hid (∀ m∈L,m<T.length):=fun m hm=>aa HME m ((aa HLM m).1 hm)
   have hgo:w3.heap.size=w3.heap.size:=rfl
   clear HME HSP zF XY HNE HO HB HB2 hgo hws hgb RY
   go_loopw [6,7,32] (fun v1 v2 i wx=>∃ (k':Nat),k'<=L.length/\i=.int .i64 (k':Int)/\Hid (wx.ownsRow w3.heap.size 3 1 v1 ((L.take k').filter fun m=>!aW T m).length (ints (ay ((L.take k').filter fun m=>!aW T m))))/\Hid (wx.ownsRow w3.heap.size 61 1 v2 ((L.take k').filter fun m=>aW T m).length (strs (((L.take k').filter fun m=>aW T m).map (XX T))))/\Hid (Below w3.heap.size w3 wx)) (fun _ _ i _=>L.length - (intOf i).toNat)
   case atStart=>exact ⟨0,Nat.zero_le _,rfl,World.ownsRow_nil _ _ _ _,World.ownsRow_nil _ _ _ _,Below.refl _ _⟩
   case round=>
    obtain ⟨k',hk',rfl,HM,HST,Zd⟩:=hrel
    have ae6:w3.heap.size<=wr.heap.size:=(aa Zd).size
    by_cases hlt:k'<L.length
    ·have hxL:(ay L)[k']? = some ((L[k']:Nat):Int):=by simp [ay,hlt]
     have cx:=aa HCX k' _ hxL
     rw [<-(aa Zd).cell (p:=⟨g,k',none⟩) adt] at cx
     have VD:=aa HK L[k'] (List.getElem_mem _)
     have hTk:∀ p:Nat->Bool,(L.take (k'+1)).filter p=(L.take k').filter p++(if p L[k']=true then [L[k']] else []):=fun p=>by
      rw [List.take_succ_eq_append_getElem hlt,List.filter_append]
      cases hp:p L[k']<;>simp [hp]
     have RX:=hide hTk
     have hl1:((L.take k').filter fun m=>!aW T m).length<=100000000000:=Nat.le_trans (List.length_filter_le _ _) (by rw [List.length_take];omega)
     have hl2:((L.take k').filter fun m=>aW T m).length<=100000000000:=Nat.le_trans (List.length_filter_le _ _) (by rw [List.length_take];omega)
     obtain ⟨x,hx⟩:∃ x,T[L[k']]? = some x:=⟨_,List.getElem?_eq_getElem VD⟩
     have HTx:=aX.below HT3 (aa Zd)
     obtain ⟨gt,q2,a0,a1,a2,a3,a4⟩:=(aa HTx).at hx
     have hsb:aW T L[k']=decide (x.1.kd=0):=by unfold aW;rw [hx]
     have hst:XX T L[k']=x.1.st:=by unfold XX;rw [hx]
     generalize L[k']=m at *
     have hmI:(m:Int)<(T.length:Int):=by omega
     have hm0:(0:Int)<=(m:Int):=by omega
     have LY:(k':Int)<(L.length:Int):=by omega
     clear hxL hTk hx HTx
     generalize x.1.kd=xk at *
     generalize x.1.st=xs at *
     generalize x.1.fi=xf at *
     generalize x.1.se=xe at *
     generalize x.2=xb at *
     obtain ⟨wm,hwm⟩:∃ wm,wr.alloc (.cells #[.int .i64 xk,.string xs,.int .i64 xf,.int .i64 xe,.bool xb] 161)=wm:=⟨_,rfl⟩
     have HBm:Hid (Below w3.heap.size w3 wm):=by rw [<-hwm];exact (aa Zd).alloc (aa Zd).size _
     have HMm:=hide ((aa HM).alloc (.cells #[.int .i64 xk,.string xs,.int .i64 xf,.int .i64 xe,.bool xb] 161))
     have HSm:=hide ((aa HST).alloc (.cells #[.int .i64 xk,.string xs,.int .i64 xf,.int .i64 xe,.bool xb] 161))
     rw [hwm] at HMm HSm
     have q0:wm.cell? ⟨wr.heap.size,0,none⟩=some (.int .i64 xk):=by rw [<-hwm];exact az rfl 0 rfl
     have q1:wm.cell? ⟨wr.heap.size,1,none⟩=some (.string xs):=by rw [<-hwm];exact az rfl 1 rfl
     have adu:w3.heap.size<=wm.heap.size:=(aa HBm).size
     by_cases hk0:xk=0
     ·subst hk0
      rw [decide_eq_true rfl] at hsb
      go_wp2_with (at_builtin;refine jK Tryz.underlying176 Y9 rfl (by decide) (by decide) w3.heap.size w3 wm _ _ [.string xs] _ (.tmp 47) (.tmp 51) rfl rfl rfl wm.heap.size rfl rfl HSm HBm adu hl2 rfl (by intro u hu;simp at hu;rw [hu];rfl) ?_;intro g3 gp w4 z8 qh HK4)
      go_roundw
      case rel=>
       refine ⟨k'+1,by omega,by go_num,?_,?_,qh⟩
       ·have e2:=aa RX (fun m=>!aW T m)
        rw [hsb] at e2
        simp only [Bool.not_true,Bool.false_eq_true,if_false,List.append_nil] at e2
        show World.ownsRow _ _ _ _ _ _ _
        rw [e2]
        exact aa HK4 _ _ _ _ _ _ (by decide) (aa HMm)
       ·have e2:=aa RX (fun m=>aW T m)
        rw [if_pos hsb] at e2
        show World.ownsRow _ _ _ _ _ _ _
        rw [e2,List.length_append,List.map_append,show strs (((L.take k').filter fun m=>aW T m).map (XX T)++[m].map (XX T))=strs (((L.take k').filter fun m=>aW T m).map (XX T))++[.string xs] from by simp [strs,hst]]
        exact z8
      case measure=>simp [intOf];omega
     ·rw [decide_eq_false hk0] at hsb
      have hnk:(xk==0)=false:=by simpa using hk0
      go_wp2_with (at_builtin;refine jK Tryz.underlying31 gP rfl (by decide) (by decide) w3.heap.size w3 wm _ _ [.int .i64 (m:Int)] _ (.tmp 53) (.tmp 55) rfl rfl rfl wm.heap.size rfl rfl HMm HBm adu hl1 rfl (by intro u hu;simp at hu;rw [hu];rfl) ?_;intro g3 gp w4 z8 qh HK4)
      go_roundw
      case rel=>
       refine ⟨k'+1,by omega,by go_num,?_,?_,qh⟩
       ·have e2:=aa RX (fun m=>!aW T m)
        rw [hsb] at e2
        simp only [Bool.not_false,if_true] at e2
        show World.ownsRow _ _ _ _ _ _ _
        rw [e2,List.length_append,h_,show ints (ay ((L.take k').filter fun m=>!aW T m)++ay [m])=ints (ay ((L.take k').filter fun m=>!aW T m))++[.int .i64 (m:Int)] from by simp [ints,ay]]
        exact z8
       ·have e2:=aa RX (fun m=>aW T m)
        rw [if_neg (by rw [hsb];simp),List.append_nil] at e2
        show World.ownsRow _ _ _ _ _ _ _
        rw [e2]
        exact aa HK4 _ _ _ _ _ _ (by decide) (aa HSm)
      case measure=>simp [intOf];omega
    ·obtain rfl:k'=L.length:=by omega
     rw [List.take_length] at HM HST
     have hb:=(aa HB3).trans ((aa Zd).mono hw3)
     go_wp2_with fail
     obtain ⟨a1,c1,rfl,-⟩:=aN (aa HM)
     obtain ⟨a2,c2,rfl,-⟩:=aN (aa HST)
     refine bodyPost_ret (v:=.tuple #[.slice a1 (L.filter fun m=>!aW T m).length c1,.slice a2 (L.filter fun m=>aW T m).length c2]) ?_ rfl ⟨a1,a2,c1,c2,rfl,dU (aa HM) hw3,dU (aa HST) hw3,hb⟩
     simp [results,Tryz.results110,go_sem]
end
end Go.Proofs.YtfolanohokflkaaGreatDoor
namespace Go.Proofs
open Go.Shelf
def Tryz.J_:Go.Shelf.Ren:=⟨fun | 10=>157 | 6=>233 | n=>n,fun | 22=>31 | 23=>3 | 25=>101 | 3=>3 | 4=>4 | 0=>0 | n=>n,fun | n=>n⟩
theorem Tryz.Ze:Go.Proofs.SlLaysH.n10 Tryz.prog Tryz.J_:={
 mixed:=by kernel_rfl
 f6:=⟨ "slices.IndexFunc[[]int,int]",by decide,Tryz.func233.trans (congrArg some (by kernel_rfl))⟩
 f10:=⟨ "slices.DeleteFunc[[]int,int]",by decide,Tryz.func157.trans (congrArg some (by kernel_rfl))⟩
 t0:=Tryz.underlying0
 a0:=Tryz.isAgg0
 z0:=Tryz.sizeOf0
 v0:=Tryz.zeroValue0
 t3:=Tryz.underlying3
 a3:=Tryz.isAgg3
 z3:=Tryz.sizeOf3
 v3:=Tryz.zeroValue3
 t4:=Tryz.underlying4
 a4:=Tryz.isAgg4
 z4:=Tryz.sizeOf4
 v4:=Tryz.zeroValue4
 t22:=Tryz.underlying31
 a22:=Tryz.isAgg31
 z22:=Tryz.sizeOf31
 v22:=Tryz.zeroValue31
 a23:=Tryz.isAgg3
 z23:=Tryz.sizeOf3
 t25:=Tryz.underlying101
 a25:=Tryz.isAgg101
 z25:=Tryz.sizeOf101
 v25:=Tryz.zeroValue101 }
def Tryz.yA:Go.Shelf.Ren:=⟨fun | 43=>240 | n=>n,fun | 22=>107 | 23=>21 | 3=>3 | 4=>4 | 0=>0 | n=>n,fun | n=>n⟩
theorem Tryz.GI:Go.Proofs.SlLaysE.n43 Tryz.prog Tryz.yA:={
 mixed:=by kernel_rfl
 f43:=⟨ "slices.Compact[[]rune,rune]",by decide,Tryz.func240.trans (congrArg some (by kernel_rfl))⟩
 t0:=Tryz.underlying0
 a0:=Tryz.isAgg0
 z0:=Tryz.sizeOf0
 v0:=Tryz.zeroValue0
 t3:=Tryz.underlying3
 a3:=Tryz.isAgg3
 z3:=Tryz.sizeOf3
 v3:=Tryz.zeroValue3
 t4:=Tryz.underlying4
 a4:=Tryz.isAgg4
 z4:=Tryz.sizeOf4
 v4:=Tryz.zeroValue4
 t22:=Tryz.underlying107
 a22:=Tryz.isAgg107
 z22:=Tryz.sizeOf107
 v22:=Tryz.zeroValue107
 a23:=Tryz.isAgg21
 z23:=Tryz.sizeOf21 }
end Go.Proofs
namespace Go.Proofs.YtfolanohokflkaaGreatDoor
open Go.RowKit
theorem VE {w:World} {g n m cap:Nat} {l r:List Int} (h:w.ownsRow 0 3 1 (.slice (some ⟨g,0,none⟩) n cap) n (ints (l++r))) (hm:l.length=m) (hle:m<=n):w.ownsRow 0 3 1 (.slice (some ⟨g,0,none⟩) m cap) m (ints l):=by
 obtain ⟨hlen,⟨hv,_⟩ | ⟨g',cap',cur,hv,hb,hgr,hn',hmx,hs,ht⟩⟩:=h
 ·cases hv
 ·injection hv with e1 e2 e3
  injection e1 with e1
  injection e1 with e1
  subst e1
  subst e3
  subst hm
  refine ⟨by simp [ints],.inr ⟨g,cap,cur,rfl,hb,hgr,by omega,hmx,hs,?_⟩⟩
  have h2:=congrArg (List.take (l.length*1)) ht
  rw [List.take_take,Nat.min_eq_left (by omega)] at h2
  rw [h2]
  unfold ints
  rw [List.map_append,List.take_append_of_le_length (by simp),List.take_of_length_le (by simp)]
theorem adv (w:World):w=w.drewN 0:=rfl
theorem Zf (w:World) (g n cap:Nat) (l:List Int) (y:Int) (kb:Nat) (hl:l.length=n) (hN:n<=1000000000000) (h:w.ownsRow 0 3 1 (.slice (some ⟨g,0,none⟩) n cap) n (ints l)) (hk:w.cell? ⟨kb,0,none⟩=some (.int .i64 y)) (hne:kb≠g) :
  Calls Tryz.prog 157 #[.slice (some ⟨g,0,none⟩) n cap,.func (.func 158) #[] #[.pointer (some ⟨kb,0,none⟩)]] w fun e w'=>e=.returned (.slice (some ⟨g,0,none⟩) (l.filter fun x=>!decide (x=y)).length cap)/\w'.ownsRow 0 3 1 (.slice (some ⟨g,0,none⟩) (l.filter fun x=>!decide (x=y)).length cap) (l.filter fun x=>!decide (x=y)).length (ints (l.filter fun x=>!decide (x=y)))/\w.grownBy w' (some g):=by
 have hg:=qz h
 have hcap:n<=cap:=by
  obtain ⟨_,⟨hv,_⟩ | ⟨g',cap',cur,hv,_,_,hn',_⟩⟩:=h
  ·cases hv
  ·injection hv with _ _ e3
   omega
 have hkl:=World.block_lt_of_cell? w _ hk
 have hg1:∀ W:World,W.cell? ⟨kb,0,none⟩=some (.int .i64 y)->∀ x:Int,FnGives Tryz.prog 158 #[.pointer (some ⟨kb,0,none⟩)] #[Cv x] (.bool (decide (x=y))) W:=fun W hW x=>
  (ac3 (x:=x) hW).mono fun e w' ⟨h1,h2⟩=>⟨h1,0,by rw [<-h2];exact adv W⟩
 have hPA:PredAt Tryz.prog 158 #[.pointer (some ⟨kb,0,none⟩)] Cv (fun x=>decide (x=y)) w:=fun W x hb=>hg1 W ((hb.cell (p:=⟨kb,0,none⟩) hkl).trans hk) x
 have hPO:PredOver Tryz.prog 158 #[.pointer (some ⟨kb,0,none⟩)] Cv (fun x=>decide (x=y)) g 0 l.toArray.size w:=fun m os dk x _=>hg1 _ (by
  have e1:(sortWorld Cv w g 0 m dk os).heap[kb]? = w.heap[kb]? := by
   show (Sort.grow (Sort.putRow Cv (Sort.ahead w m) g 0 dk) os).heap[kb]? = _
   rw [Sort.heap_grow_old _ _ (by simpa using hkl)]
   show (w.heap.modify g _)[kb]? = _
   rw [Array.getElem?_modify,if_neg (fun e=>hne e.symm)]
  rw [World.cell?_of_block (w:=w) (a:=⟨kb,0,none⟩) e1];exact hk) x
 have hsz:l.toArray.size=n:=by simpa using hl
 have:=AnyE.slices_DeleteFunc Tryz.Ze Cv (fun _=>rfl) (fun x=>decide (x=y)) 158 #[.pointer (some ⟨kb,0,none⟩)] (aL Tryz.func158 (by kernel_rfl) (by kernel_rfl)) 0 (fun _=>Tryz.zeroValue3 _) g 0 cap l.toArray w hPA hPO (vk hl h) (by rw [hsz];omega) (by rw [hsz];exact hcap)
 rw [hsz] at this
 refine this.mono ?_
 rintro e w' ⟨rfl,m,rfl⟩
 have hfl:(l.filter fun x=>!decide (x=y)).length<=n:=by rw [<-hl];exact List.length_filter_le _ _
 have hr:((l.filter fun x=>!decide (x=y))++List.replicate (n - (l.filter fun x=>!decide (x=y)).length) 0).length=n:=by
  rw [List.length_append,List.length_replicate];omega
 have hp:=Cw (os:=#[]) (m:=m) hr h hg
 rw [ahead_grow] at hp
 exact ⟨rfl,VE hp.1 rfl hfl,hp.2⟩
theorem VF {w:World} {g n cap m:Nat} {l r:List Int} {os:Array Obj} (hr:r.length=n) (h:w.ownsRow 0 21 1 (.slice (some ⟨g,0,none⟩) n cap) n (runeCells l)) (hg:g<w.heap.size) :
  (Sort.grow (Sort.putRow encR (Sort.ahead w m) g 0 r.toArray) os).ownsRow 0 21 1 (.slice (some ⟨g,0,none⟩) n cap) n (runeCells r)/\w.grownBy (Sort.grow (Sort.putRow encR (Sort.ahead w m) g 0 r.toArray) os) (some g):=by
 obtain ⟨hlen,⟨hv,_⟩ | ⟨g',cap',cur,hv,hb,hgr,hn',hm,hs,ht⟩⟩:=h
 ·cases hv
 ·injection hv with e1 e2 e3
  injection e1 with e1
  injection e1 with e1
  subst e1
  subst e3
  refine ⟨⟨by simpa [runeCells] using hr,.inr ⟨g,cap,Sort.putCells encR 0 r.toArray cur,rfl,hb,?_,hn',hm,?_,?_⟩⟩,?_⟩
  ·rw [Sort.heap_grow_old _ _ (by simpa using hg)]
   show (w.heap.modify g _)[g]? = _
   rw [Array.getElem?_modify,if_pos rfl,hgr]
   rfl
  ·simpa [Sort.putCells] using hs
  ·have hcs:r.toArray.size<=cur.size:=by
    simp [hr]
    omega
   have:=take_putCells r.toArray cur hcs
   simp only [List.size_toArray,hr] at this
   simpa using this
  ·refine ⟨rfl,rfl,rfl,by simp,fun k hk hne=>?_⟩
   rw [Sort.heap_grow_old _ _ (by simpa using hk)]
   show (w.heap.modify g _)[k]? = _
   rw [Array.getElem?_modify,if_neg (fun e=>hne (by rw [e]))]
theorem GJ (w:World) (g n cap:Nat) (l:List Int) (hl:l.length=n) (hN:n<=1000000000000) (h:w.ownsRow 0 21 1 (.slice (some ⟨g,0,none⟩) n cap) n (runeCells l)) (hle:(Lib.compact l).length<=n) :
  Calls Tryz.prog 240 #[.slice (some ⟨g,0,none⟩) n cap] w fun e w'=>e=.returned (.slice (some ⟨g,0,none⟩) (Lib.compact l).length cap)/\w'.ownsRow 0 21 1 (.slice (some ⟨g,0,none⟩) (Lib.compact l).length cap) (Lib.compact l).length (runeCells (Lib.compact l))/\w.grownBy w' (some g):=by
 have hg:g<w.heap.size:=(h.lt g rfl).2
 have hcap:n<=cap:=by
  obtain ⟨_,⟨hv,_⟩ | ⟨g',cap',cur,hv,_,_,hn',_⟩⟩:=h
  ·cases hv
  ·injection hv with _ _ e3
   omega
 have hsz:l.toArray.size=n:=by simpa using hl
 have:=AnyE.slices_Compact Tryz.GI encR (fun _=>rfl) (EqlAt.intD _ _ .i32) (NeqAt.intD _ _ .i32) 0 (fun _=>Tryz.zeroValue21 _) g 0 cap l.toArray w (ES hl h) (by rw [hsz];omega) (by rw [hsz];exact hcap)
 rw [hsz,<-hl] at this
 refine (show Calls Tryz.prog 240 #[.slice (some ⟨g,0,none⟩) n cap] w _ from by rw [<-hl];exact this).mono ?_
 rintro e w' ⟨rfl,m,rfl⟩
 have hr:(Lib.compact l++List.replicate (n - (Lib.compact l).length) 0).length=n:=by
  rw [List.length_append,List.length_replicate];omega
 have hp:=VF (os:=#[]) (m:=m) hr h hg
 rw [ahead_grow,<-hl] at hp
 refine ⟨rfl,?_,hp.2⟩
 obtain ⟨hlen,⟨hv,_⟩ | ⟨g',cap',cur,hv,hb,hgr,hn',hmx,hs,ht⟩⟩:=hp.1
 ·cases hv
 ·injection hv with e1 e2 e3
  injection e1 with e1
  injection e1 with e1
  subst e1
  subst e3
  refine ⟨by simp [runeCells],.inr ⟨g,cap,cur,rfl,hb,hgr,by omega,hmx,hs,?_⟩⟩
  have h2:=congrArg (List.take ((Lib.compact l).length*1)) ht
  rw [List.take_take,Nat.min_eq_left (by omega)] at h2
  rw [h2]
  unfold runeCells
  rw [List.map_append,List.take_append_of_le_length (by simp),List.take_of_length_le (by simp)]
end Go.Proofs.YtfolanohokflkaaGreatDoor
namespace Go.Proofs.YtfolanohokflkaaGreatDoor
open Go.RowKit
open Tm (eps)
section
variable {w:World} {t:TB} {T:List Te} {N S C:List (Value×Value)}
theorem Pp (W:World) (B:Nat) (i:Int) (hB:B<=W.heap.size):(W.alloc (.cells #[.int .i64 i] 3)).ownsRow B 3 1 (.slice (some ⟨W.heap.size,0,none⟩) 1 1) 1 (ints [i]):=
 ⟨rfl,.inr ⟨W.heap.size,1,#[.int .i64 i],rfl,hB,heap_alloc_new W _,Nat.le_refl _,by decide,rfl,rfl⟩⟩
theorem abM {T:List Te} {k:Bool} {n:Nat} {l:List Nat} (h:ky T k n l):0<l.length:=by cases h<;>simp
theorem zg {W0 W:World} {k:Bool} {j kb:Nat} {l:List Nat} {ob:Obj} (h:Hid (aX W t T (ak T) S C)) (hw:uI T) (hsp:ky T k j l) (hl:l.length<=1000000) (hb:Below kb W0 W) (hkb:W.heap[kb]? = some ob) :
  Calls Tryz.prog 153 #[.pointer (some ⟨t.tb,0,none⟩),.int .i64 (kk k),.int .i64 j] W fun e w'=>∃ g cap,e=.returned (.slice (some ⟨g,0,none⟩) l.length cap)/\Hid (w'.ownsRow W.heap.size 3 1 (.slice (some ⟨g,0,none⟩) l.length cap) l.length (ints (ay l)))/\Hid (Below kb W0 w')/\Hid (w'.heap[kb]? = some ob)/\Hid (Below W.heap.size W w')/\kb<w'.heap.size:=by
 have hlt:kb<W.heap.size:=(Array.getElem?_eq_some_iff.1 hkb).1
 refine (Cu h hw hsp hl).mono ?_
 rintro e w' ⟨g,cap,he,h1,h2⟩
 exact ⟨g,cap,he,h1,hb.trans ((aa h2).mono (by omega)),((aa h2).block kb hlt).trans hkb,h2,Nat.lt_of_lt_of_le hlt (aa h2).size⟩
set_option maxRecDepth 100000 in
set_option maxHeartbeats 4000000 in
theorem E_ {k:Bool} {i j:Nat} {l:List Nat} (h:Hid (aX w t T (ak T) S C)) (hw:uI T) (hsp:ky T k j l) (hl:l.length<=1000000) :
  Calls Tryz.prog 181 #[.pointer (some ⟨t.tb,0,none⟩),iD (bW k i j)] w fun e w'=>∃ g cap,e=.returned (.slice (some ⟨g,0,none⟩) (l.length+1) cap)/\Hid (w'.ownsRow w.heap.size 3 1 (.slice (some ⟨g,0,none⟩) (l.length+1) cap) (l.length+1) (ints (ay (i::l))))/\Hid (Below w.heap.size w w'):=by
 unfold iD bW
 dsimp only
 obtain ⟨i0,hi0,hz0,hz1,hz2⟩:=info_parts gP
 have HT1:=aX.alloc h (.cells #[.int .i64 (kk k),.string ⟨#[]⟩,.int .i64 (i:Int),.int .i64 (j:Int)] 135)
 have HB1:Hid (Below w.heap.size w (w.alloc (.cells #[.int .i64 (kk k),.string ⟨#[]⟩,.int .i64 (i:Int),.int .i64 (j:Int)] 135))):=(Below.refl _ _).alloc (Nat.le_refl _) _
 have hs1:(w.alloc (.cells #[.int .i64 (kk k),.string ⟨#[]⟩,.int .i64 (i:Int),.int .i64 (j:Int)] 135)).heap.size=w.heap.size+1:=by simp
 have DC:=hide (heap_alloc_new w (.cells #[.int .i64 (kk k),.string ⟨#[]⟩,.int .i64 (i:Int),.int .i64 (j:Int)] 135))
 have hlp:=abM hsp
 go_enter Tryz.func181,Tryz.ntmps181
 go_wp2_with fail
 generalize w.alloc (.cells #[.int .i64 (kk k),.string ⟨#[]⟩,.int .i64 (i:Int),.int .i64 (j:Int)] 135)=W1 at *
 obtain ⟨k0,k1,k2,k3⟩:=bI (aa DC)
 have HTa:Hid (aX W1.drew t T (ak T) S C):=hide ((aa HT1).drew 1)
 have HSa:=hide (zg (kb:=w.heap.size) HTa hw hsp hl (show Below w.heap.size w W1.drew from ⟨(aa HB1).os,(aa HB1).tape,(aa HB1).output,(aa HB1).size,(aa HB1).block⟩) (show W1.drew.heap[w.heap.size]? = _ from aa DC))
 have HTb:=aX.alloc HTa (.cells #[.int .i64 (i:Int)] 3)
 have HSb:=hide (zg (kb:=w.heap.size) HTb hw hsp hl ((show Below w.heap.size w W1.drew from ⟨(aa HB1).os,(aa HB1).tape,(aa HB1).output,(aa HB1).size,(aa HB1).block⟩).alloc (show w.heap.size<=W1.heap.size by omega) _) ((Below.heap_alloc W1.drew _ _ (show w.heap.size<W1.heap.size by omega)).trans (show W1.drew.heap[w.heap.size]? = _ from aa DC)))
 have HOb:Hid ((W1.drew.alloc (.cells #[.int .i64 (i:Int)] 3)).ownsRow (w.heap.size+1) 3 1 (.slice (some ⟨w.heap.size+1,0,none⟩) 1 1) 1 (ints [(i:Int)])):=(by have:=Pp W1.drew (w.heap.size+1) (i:Int) (show w.heap.size+1<=W1.heap.size by omega);rw [show W1.drew.heap.size=w.heap.size+1 from hs1] at this;exact this)
 clear h hw hsp HT1 HTa HTb HB1
 generalize hkb:w.heap.size=kb at *
 go_region_held3 (fun w'=>w'.cell? ⟨kb,0,none⟩=some (.int .i64 (kk k))/\w'.cell? ⟨kb,2,none⟩=some (.int .i64 i)/\w'.cell? ⟨kb,3,none⟩=some (.int .i64 j)) (go_keep)
  (first
   | (go_at_call 153;first | (refine (aa HSa).mono ?_;clear HSa;rintro e w3 ⟨g3,gp,rfl,qg,HB3,Y8,Zd,hlt3⟩;obtain ⟨r0,r1,r2,r3⟩:=bI (aa Y8);have HOx:=hide (Pp w3 (kb+1) (i:Int) hlt3);have HK4:=hide ((Below.heap_alloc w3 (.cells #[.int .i64 (i:Int)] 3) kb hlt3).trans (aa Y8));  have z8:=hide ((aa qg).alloc (.cells #[.int .i64 (i:Int)] 3));have qh:Hid (Below kb w (w3.alloc (.cells #[.int .i64 (i:Int)] 3))):=(aa HB3).alloc (Nat.le_of_lt hlt3) _;have Zg:kb<(w3.alloc (.cells #[.int .i64 (i:Int)] 3)).heap.size:=(by simp;omega)) | (refine (aa HSb).mono ?_;clear HSb;rintro e w3 ⟨g3,gp,rfl,z8,qh,Y8,Zd,hlt3⟩;obtain ⟨r0,r1,r2,r3⟩:=bI (aa Y8);have HOx:=hide (own_below (aa HOb) (aa Zd) (Nat.le_refl _));have Zg:=hlt3;have HK4:=Y8))
   | (refine step_append_lies _ (by rfl) _ _ _ (by rfl) (kb+1) 3 i0 _ 1 8 Tryz.underlying31 hi0 hz0 hz1 hz2 rfl (by omega) _ 1 (ints [(i:Int)]) (by rfl) (aa HOx) ⟨g3,0,none⟩ l.length gp (ints (ay l)) (by rfl) (by simp [ints,ay]) ((aa z8).cells rfl) (by intro u hu;obtain ⟨z,_,rfl⟩:=List.mem_map.1 hu;rfl) hlp (by unfold maxLen;omega) (by omega) Zg _ rfl ?_;intro g5 cap5 w5 hown5 hgr5 aev ae7;have oM:=hide hown5;have kz:=hide (below_grown (aa qh) (dU (aa HOx) (Nat.le_succ kb)) hgr5 (Nat.le_of_lt Zg));have FM:=hide ((hgr5.block kb Zg (fun e=>by have:=((aa HOx).lt kb e.symm).1;omega)).trans (aa HK4));obtain ⟨q0,q1,q2,q3⟩:=bI (aa FM);clear hown5 hgr5 aev))
 all_goals go_wp2_with fail
 all_goals go_ret
 all_goals (refine ⟨g5,cap5,by simp [Nat.add_comm],?_,by rw [hkb];exact kz⟩;show World.ownsRow _ _ _ _ _ _ _;rw [Nat.add_comm l.length 1,hkb];exact dU (aa oM) (Nat.le_succ kb))
end
end Go.Proofs.YtfolanohokflkaaGreatDoor
namespace Go.Proofs.YtfolanohokflkaaGreatDoor
open Tm (eps)
variable {B:List Int}
theorem wY {T:List Te} (h:TI B T) {k:Bool} {ms:List Nat} {us:List Tm} (hm:MOk T k ms) (hr:g_ T ms us) (hz:dF k∉ms.filter fun m=>decide (m≠aY k)):(ms.filter fun m=>decide (m≠aY k)).length<=(memT k (aj k us)).length:=by
 generalize hL:ms.filter (fun m=>decide (m≠aY k))=L at *
 by_cases hne:L=[]
 ·subst hne;exact Nat.zero_le _
 have hsub:∀ m,m∈L↔m∈ms/\m≠aY k:=fun m=>by rw [<-hL];simp
 obtain ⟨ts,hts⟩:=g_.of (T:=T) (l:=L) fun n hn=>by
  obtain ⟨t,ht,_⟩:=h.all n (hr.lt n ((hsub n).1 hn).1)
  exact ⟨t,ht⟩
 have hsame:aj k us=aj k ts:=by
  refine Cq (hr.cn h.toTJ) (hts.cn h.toTJ) fun t ht=>?_
  rw [hr.mem,hts.mem]
  constructor
  ·rintro ⟨n,hn,h1⟩
   refine ⟨n,(hsub n).2 ⟨hn,?_⟩,h1⟩
   rintro rfl
   exact ht (h1.uniq (h.idle k))
  ·rintro ⟨n,hn,h1⟩
   exact ⟨n,((hsub n).1 hn).1,h1⟩
 rw [hsame]
 have hg:XU T k L:=by
  refine ⟨fun m hmL=>?_,?_⟩
  ·obtain ⟨h1,h2⟩:=(hsub m).1 hmL
   have h3:m≠dF k:=by rintro rfl;exact hz hmL
   obtain ⟨x,hx,hk⟩:=hm.mem m h1
   cases k
   ·exact ⟨by simpa [aY] using h2,by simpa [dF] using h3,x,hx,hk⟩
   ·exact ⟨by simpa [dF] using h3,by simpa [aY] using h2,x,hx,hk⟩
  ·rw [<-hL];exact hm.ord.filter _
 obtain ⟨o,sp⟩:=Cs h hne hg hts
 have hup:g_ (joinL T k L).1 L ts:=by
  obtain ⟨X,e⟩:=o.sub
  rw [e];exact hts.mono
 rw [<-hup.len]
 have hn:=hup.nodup o.ti (pR hg.ord)
 exact il hn fun t ht=>(o.ti.mem o.rp sp t).2 (hup.mem.1 ht)
theorem R7 {T:List Te} (h:TJ T) {k:Bool} {n:Nat} {l:List Nat} (sp:ky T k n l):l.Nodup:=by
 cases sp with
 | one _ _=>simp
 | more hx sp=>exact pR (h.gok _ _ _ _ _ hx _ (.more hx sp)).ord
theorem Ah {T:List Te} (h:TI B T) {k:Bool} {n:Nat} {t:Tm} {l:List Nat} (hr:Rp T n t) (sp:ky T k n l):l.length<=(memT k t).length:=by
 obtain ⟨ts,hts⟩:=g_.of (T:=T) (l:=l) fun m hm=>by
  obtain ⟨x,hx,_⟩:=sp.kinds h.toTJ m hm
  obtain ⟨y,hy,_⟩:=h.all m (List.getElem?_eq_some_iff.1 hx).1
  exact ⟨y,hy⟩
 rw [<-hts.len]
 exact il (hts.nodup h (R7 h.toTJ sp)) fun x hx=>(h.mem hr sp x).2 (hts.mem.1 hx)
theorem Cy {T:List Te} {k:Bool} {b:Nat}:∀ {l:List Nat},(∀ n∈l,(gG T k n).length<=b)->(l.flatMap (gG T k)).length<=l.length*b
 | [],_=>by simp
 | a::l,h=>by
  have h1:=h a (List.mem_cons_self ..)
  have h2:=Cy (l:=l) fun n hn=>h n (List.mem_cons_of_mem _ hn)
  rw [List.flatMap_cons,List.length_append,List.length_cons,Nat.add_mul]
  omega
theorem GK {T:List Te} (h:TI B T):∀ {L:List Nat},(∀ m∈L,aW T m=true)->∃ ss:List af,g_ T L (ss.map Tm.set)/\L.map (XX T)=ss.map encS/\∀ s∈ss,Tidy s/\bU B s
 | [],_=>⟨[],.nil,rfl,by simp⟩
 | m::L,hL=>by
  obtain ⟨ss,h1,h2,h3⟩:=GK h (L:=L) fun n hn=>hL n (List.mem_cons_of_mem _ hn)
  obtain ⟨x,hx,hk⟩:=l8.1 (hL m (List.mem_cons_self ..))
  obtain ⟨t,ht,_⟩:=h.all m (List.getElem?_eq_some_iff.1 hx).1
  obtain ⟨s,b,e1,e2,e3⟩:=(h.kind ht hx).2.2.2 hk
  subst e2
  refine ⟨s::ss,.cons ht h1,?_,fun y hy=>?_⟩
  ·rw [List.map_cons,List.map_cons,h2]
   have:XX T m=encS s:=by unfold XX;rw [hx,e1];rfl
   rw [this]
  ·rcases List.mem_cons.1 hy with rfl | hy
   ·exact ⟨e3,h.sin _ _ ht⟩
   ·exact h3 y hy
theorem Pq {T:List Te} (h:TI B T) {k:Bool} {ns:List Nat} (hM:MOk T k ns) (hns:∀ m∈ns,¬ Na T m) {s:af} (hs:Tidy s) (hb:bU B s):MOk (fA T (encS s)).1 k (ns++[(fA T (encS s)).2]):=by
 have oQ:=Op.set h hs hb
 obtain ⟨X,eX⟩:=oQ.sub
 obtain ⟨b0,hb0⟩:=Cr T (kg (encS s))
 have hlt:∀ m∈ns,m<T.length:=fun m hm=>by
  obtain ⟨x,hx,_⟩:=hM.mem m hm
  exact (List.getElem?_eq_some_iff.1 hx).1
 refine ⟨fun m hm=>?_,?_⟩
 ·rcases List.mem_append.1 hm with q | q
  ·obtain ⟨x,hx,hk⟩:=hM.mem m q
   exact ⟨x,oQ.get hx,hk⟩
  ·have:m=(fA T (encS s)).2:=by simpa using q
   subst this
   exact ⟨_,hb0,fun e=>(kk_ne k).1 e.symm⟩
 ·have hnew:∀ m∈ns,¬ Na (fA T (encS s)).1 m:=fun m hm=>by
   rw [eX,Af (hlt m hm)];exact hns m hm
  refine List.pairwise_append.2 ⟨hM.ord.imp_of_mem fun {a b} ha hb q=>⟨hnew a ha,?_⟩,by simp,fun a ha b hb=>?_⟩
  ·exact .inr (q.2.resolve_left (hns b hb))
  ·have:b=(fA T (encS s)).2:=by simpa using hb
   subst this
   exact ⟨hnew a ha,.inl ⟨_,hb0,rfl⟩⟩
end Go.Proofs.YtfolanohokflkaaGreatDoor
namespace Go.Proofs.YtfolanohokflkaaGreatDoor
open Tm (eps)
section
variable {B:List Int}
theorem Ka {T:List Te} (hnd:(T.map (·.1)).Nodup) {n:Nat} {κ:Ky} {b:Bool} (hx:T[n]? = some (κ,b)):dP T κ=(T,n):=by
 rcases dV T κ with ⟨i,b',hi,e⟩ | ⟨hno,_⟩
 ·rw [e]
  obtain ⟨h1,h2⟩:=List.getElem?_eq_some_iff.1 hi
  obtain ⟨h3,h4⟩:=List.getElem?_eq_some_iff.1 hx
  have h5:(T.map (·.1))[i]'(by simpa using h1)=(T.map (·.1))[n]'(by simpa using h3):=by simp [h2,h4]
  have h6:i=n:=(List.getElem_inj hnd).1 h5
  rw [h6]
 ·exact absurd rfl (hno _ (List.mem_iff_getElem?.2 ⟨n,hx⟩))
theorem Ni {T:List Te} (hnd:(T.map (·.1)).Nodup) {k:Bool} {n:Nat} {l:List Nat} (h:ky T k n l):joinL T k l=(T,n):=by
 induction h with
 | one _ _=>rfl
 | @more n i j b l hx hs ih=>
  cases l with
  | nil=>exact absurd rfl hs.ne
  | cons a r=>
   show dP (joinL T k (a::r)).1 (bW k i (joinL T k (a::r)).2)=_
   rw [ih]
   exact Ka hnd hx
theorem aaN {T:List Te}:∀ {l l':List Nat},l.Pairwise (Bf T)->l'.Pairwise (Bf T)->(∀ m,m∈l↔m∈l')->l=l'
 | [],[],_,_,_=>rfl
 | [],b::_,_,_,h=>by have:=(h b).2 (List.mem_cons_self ..);cases this
 | a::_,[],_,_,h=>by have:=(h a).1 (List.mem_cons_self ..);cases this
 | a::l,b::l',h1,h2,h=>by
  have hn1:=pR h1
  have hn2:=pR h2
  have e:a=b:=by
   rcases List.mem_cons.1 ((h a).1 (List.mem_cons_self ..)) with q | q
   ·exact q
   ·rcases List.mem_cons.1 ((h b).2 (List.mem_cons_self ..)) with q' | q'
    ·exact q'.symm
    ·have x1:=(List.pairwise_cons.1 h2).1 a q
     have x2:=(List.pairwise_cons.1 h1).1 b q'
     rcases x1.2 with y | y
     ·exact absurd y x2.1
     ·rcases x2.2 with z | z
      ·exact absurd z x1.1
      ·omega
  subst e
  rw [aaN (l:=l) (l':=l') (List.pairwise_cons.1 h1).2 (List.pairwise_cons.1 h2).2 fun m=>?_]
  have ha1:=(List.nodup_cons.1 hn1).1
  have ha2:=(List.nodup_cons.1 hn2).1
  constructor
  ·intro q
   rcases List.mem_cons.1 ((h m).1 (List.mem_cons_of_mem _ q)) with e | e
   ·subst e;exact absurd q ha1
   ·exact e
  ·intro q
   rcases List.mem_cons.1 ((h m).2 (List.mem_cons_of_mem _ q)) with e | e
   ·subst e;exact absurd q ha2
   ·exact e
theorem Cz {T:List Te} (h:TI B T) {k:Bool} {r:Nat} {l:List Nat} (sp:ky T k r l):iF T k l=(T,r):=by
 cases sp with
 | one hx hk=>
  unfold iF
  by_cases h1:r=aY k
  ·subst h1;simp
  ·simp only [List.filter_cons,h1,ne_eq,not_false_eq_true,decide_true,if_true,List.filter_nil]
   rw [if_neg (by simp)]
   by_cases h2:dF k=r
   ·subst h2;simp
   ·rw [if_neg (by simpa using h2)];rfl
 | @more _ i j b l hx hs=>
  have hg:=h.gok r k i j b hx _ (.more hx hs)
  have hf:(i::l).filter (fun m=>decide (m≠aY k))=i::l:=List.filter_eq_self.2 fun m hm=>by
   have:=hg.mem m hm
   unfold aY
   cases k
   ·simpa using this.1
   ·simpa using this.2.1
  unfold iF
  rw [hf,if_neg (by simp),if_neg (fun hm=>by
   have:=hg.mem _ hm
   unfold dF at this
   cases k
   ·exact this.2.1 rfl
   ·exact this.1 rfl)]
  exact Ni h.nd (.more hx hs)
theorem Kb {T:List Te} (h:TI B T) {k:Bool} {r:Nat} {l0 L:List Nat} {ss:List af} (sp:ky T k r l0) (hL:L.Pairwise (· < ·)) (hmem:∀ m,m∈L↔m∈l0) (hss:g_ T (L.filter fun m=>aW T m) (ss.map Tm.set)):Y4 T k L (fG k ss)=(T,r):=by
 have abN:l0.Pairwise (Bf T):=by
  cases sp with
  | one _ _=>simp
  | more hx hs=>exact (h.gok r k _ _ _ hx _ (.more hx hs)).ord
 have adw:∀ a∈L.filter (fun m=>aW T m),∀ b∈L.filter (fun m=>aW T m),a=b:=fun a ha b hb=>by
  obtain ⟨a1,a2⟩:=List.mem_filter.1 ha
  obtain ⟨b1,b2⟩:=List.mem_filter.1 hb
  have a3:=l8.1 a2
  have b3:=l8.1 b2
  obtain ⟨i,hi,rfl⟩:=List.mem_iff_getElem.1 ((hmem a).1 a1)
  obtain ⟨j,hj,rfl⟩:=List.mem_iff_getElem.1 ((hmem b).1 b1)
  rcases Nat.lt_trichotomy i j with q | q | q
  ·exact absurd a3 (List.pairwise_iff_getElem.1 abN i j hi hj q).1
  ·subst q;rfl
  ·exact absurd b3 (List.pairwise_iff_getElem.1 abN j i hj hi q).1
 have hns:∀ m∈L.filter (fun m=>!aW T m),¬ Na T m:=fun m hm q=>by
  have:=(List.mem_filter.1 hm).2
  rw [l8.2 q] at this;cases this
 have hA:(L.filter fun m=>!aW T m).Pairwise (Bf T):=(hL.filter _).imp_of_mem fun {a b} ha hb q=>⟨hns a ha,.inr q⟩
 have hD:(L.filter fun m=>aW T m).Pairwise (Bf T):=(hL.filter _).imp_of_mem fun {a b} ha hb q=>by
  have:=adw a ha b hb;omega
 have heq:(L.filter fun m=>!aW T m)++(L.filter fun m=>aW T m)=l0:=aaN (List.pairwise_append.2 ⟨hA,hD,fun a ha b hb=>⟨hns a ha,.inl (l8.1 (List.mem_filter.1 hb).2)⟩⟩) abN fun m=>by
  rw [List.mem_append,List.mem_filter,List.mem_filter,<-hmem m]
  cases aW T m<;>simp
 generalize hDd:L.filter (fun m=>aW T m)=D at *
 cases D with
 | nil=>
  cases ss with
  | nil=>
   rw [List.append_nil] at heq
   show iF T k (L.filter fun m=>!aW T m)=_
   rw [heq]
   exact Cz h sp
  | cons s r=>cases hss
 | cons x D'=>
  have hD0:D'=[]:=by
   cases D' with
   | nil=>rfl
   | cons b _=>
    have e:=adw x (List.mem_cons_self ..) b (by simp)
    have hn:=pR hD
    rw [e] at hn
    simp at hn
  subst hD0
  cases ss with
  | nil=>cases hss
  | cons s ss'=>
   cases hss with
   | cons h1 h2=>
    have hs0:ss'=[]:=by
     cases ss' with
     | nil=>rfl
     | cons _ _=>cases h2
    subst hs0
    obtain ⟨b,hxb,-⟩:=(h.XV h1).set h1 rfl
    have e1:fA T (encS s)=(T,x):=Ka h.nd hxb
    show iF (fA T (encS s)).1 k ((L.filter fun m=>!aW T m)++[(fA T (encS s)).2])=_
    rw [e1]
    show iF T k ((L.filter fun m=>!aW T m)++[x])=_
    rw [heq]
    exact Cz h sp
end
end Go.Proofs.YtfolanohokflkaaGreatDoor
