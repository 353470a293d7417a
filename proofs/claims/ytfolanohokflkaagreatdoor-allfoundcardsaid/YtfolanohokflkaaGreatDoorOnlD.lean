import Derived.Test.YtfolanohokflkaaGreatDoorBkA
import Derived.Test.YtfolanohokflkaaGreatDoorProC
import Derived.Test.YtfolanohokflkaaGreatDoorRpG
import Derived.Test.YtfolanohokflkaaGreatDoorSpA
namespace Go.Proofs.YtfolanohokflkaaGreatDoor
open Go.RowKit Go.Shelf
attribute [local go_sem] Oper.semAt_some
def sG (R:List Te×Nat) (x:Nat):List Te×Nat:=dB (fU+1) R.1 x R.2
def zI (T:List Te) (ns:List Nat):List Te×Nat:=ns.reverse.foldl sG (T,1)
def RP (T:List Te) (ns:List Nat) (pre:List (Fin ns.length)):List Te×Nat:=(pre.map fun x=>ns[x.val]).foldl sG (T,1)
theorem Pw (T:List Te) (ns:List Nat) (pre:List (Fin ns.length)) (x:Fin ns.length):RP T ns (pre++[x])=sG (RP T ns pre) ns[x.val]:=by simp [RP]
theorem abP (T:List Te) (ns:List Nat):RP T ns (Ps ns.length)=zI T ns:=by
 unfold RP zI Ps
 rw [List.map_reverse]
 congr 2
 apply List.ext_getElem
 ·simp
 ·intro i h1 h2
  simp
theorem CB {T:List Te} {f i:Nat} (h0:i≠0):dB (f+1) T i 1=(T,i):=by
 rw [dB,if_neg (by omega)]
 by_cases h1:i=1
 ·rw [if_pos h1,h1]
 ·rw [if_neg h1,if_pos rfl]
theorem Ke {T:List Te} {n:Nat} (h0:n≠0):sG (T,1) n=(T,n):=by
 unfold sG
 generalize hF:fU+1=F
 match F,hF with
 | 0,hF=>exact absurd hF (Nat.succ_ne_zero _)
 | F+1,_=>exact CB h0
theorem Nk {T:List Te} {n:Nat} (h0:n≠0):zI T [n]=(T,n):=by
 unfold zI
 rw [List.reverse_singleton,List.foldl_cons,List.foldl_nil]
 exact Ke h0
def RwI (w w0:World) (t:TB) (S C:List (Value×Value)) (T:List Te) (ns:List Nat) (Bt Bn Bs:Nat) (pre:List (Fin ns.length)) (W:World):Prop:=
 ∃ t',Hid (aX W t' (RP T ns pre).1 (ak (RP T ns pre).1) S C)/\Hid (a_ t t' w W)/\(¬ TF t' Bt/\¬ TF t' Bn/\¬ TF t' Bs)/\Boxed W Bn 3 (.int .i64 ((RP T ns pre).2:Int))/\Boxed W Bt 86 (.pointer (some ⟨t.tb,0,none⟩))/\w0.heap.size<=W.heap.size
theorem TF.cells {w w0 W:World} {t t':TB} {T:List Te} {N S C:List (Value×Value)} (h:aX W t' T N S C) (f:a_ t t' w W) (hn:t.nb<w0.heap.size/\t.sb<w0.heap.size/\t.cb<w0.heap.size) {k:Nat} {o:Obj} (hk:w0.heap.size<=k) (ho:W.heap[k]? = some o) (hc:o.isCells=false):¬ TF t' k:=by
 intro hf
 have key:∀ (cs:Array Value) (ty:TypeId) (z:Nat×Nat),W.heap[k]? = some (.cells cs ty z)->False:=fun cs ty z e=>by
  rw [e] at ho
  cases ho
  cases hc
 rcases hf with rfl | rfl | rfl | rfl | e
 ·exact key _ _ _ h.tb
 ·rw [f.nb] at hk;omega
 ·rw [f.sb] at hk;omega
 ·rw [f.cb] at hk;omega
 ·obtain ⟨_,hx | ⟨g,cap,cur,hv,hb',hg',rest⟩⟩:=h.row
  ·have:t'.ta=none:=by injection hx.1
   simp [TB.row,this] at e
  ·injection hv with e1
   simp [TB.row,e1] at e
   subst e
   exact key _ _ _ hg'
theorem jZ (W:World) (B:Nat) (u:Value) {k:Nat} (hk:k<W.heap.size) (hne:k≠B):(W.setCell ⟨B,0,none⟩ u).heap[k]? = W.heap[k]? := (grownBy_setCell' W B u).block k hk (fun e=>hne (by cases e;rfl))
theorem RwI.own {w w0:World} {t:TB} {S C:List (Value×Value)} {T:List Te} {ns:List Nat} {Bt Bn Bs:Nat} (hn:t.nb<w0.heap.size/\t.sb<w0.heap.size/\t.cb<w0.heap.size) (hw0:w.heap.size<=w0.heap.size):OwnFrom w0.heap.size (RwI w w0 t S C T ns Bt Bn Bs):=by
 rintro s W W' row ⟨t',h1,h2,h3,h4,h5,h6⟩ hg hr
 have f:=aa h2
 have hc:∀ (k:Nat) (cs:Array Value) (ty:TypeId) (z:Nat×Nat),W.heap[k]? = some (.cells cs ty z)->some k≠row:=fun k cs ty z e er=>by
  obtain ⟨_,o,ho,hcs⟩:=hr k er.symm
  rw [e] at ho
  cases ho
  cases hcs
 have hm:∀ k,TF t' k->k<W.heap.size->W'.heap[k]? = W.heap[k]? := fun k hk hl=>by
  refine hg.block k hl (fun er=>?_)
  have hge:=(hr k er.symm).1
  have g1:=aa h1
  rcases hk with rfl | rfl | rfl | rfl | e
  ·exact hc _ _ _ _ g1.tb er
  ·rw [f.nb] at hge;omega
  ·rw [f.sb] at hge;omega
  ·rw [f.cb] at hge;omega
  ·obtain ⟨_,hx | ⟨g,cap,cur,hv,hb',hg',rest⟩⟩:=g1.row
   ·have:t'.ta=none:=by injection hx.1
    simp [TB.row,this] at e
   ·injection hv with e1
    simp [TB.row,e1] at e
    subst e
    exact hc _ _ _ _ hg' er
 refine ⟨t',hide ((aa h1).move hm),hide ⟨hg.os.trans f.os,hg.tape.trans f.tape,hg.output.trans f.output,Nat.le_trans f.size hg.size,fun k hk hf=>?_,f.tb,f.nb,f.sb,f.cb,f.row⟩,h3,h4.kept hg (hc _ _ _ _ h4),h5.kept hg (hc _ _ _ _ h5),Nat.le_trans h6 hg.size⟩
 exact (hg.block k (Nat.lt_of_lt_of_le hk f.size) (fun er=>by have:=(hr k er.symm).1;omega)).trans (f.block k hk hf)
end Go.Proofs.YtfolanohokflkaaGreatDoor
namespace Go.Proofs.YtfolanohokflkaaGreatDoor
open Go.RowKit Go.Shelf
attribute [local go_sem] Oper.semAt_some
end Go.Proofs.YtfolanohokflkaaGreatDoor
namespace Go.Proofs.YtfolanohokflkaaGreatDoor
open Go.RowKit Go.Shelf
attribute [local go_sem] Oper.semAt_some
structure Kg (T:List Te) (ns:List Nat):Prop where
 ok:∀ pre:List (Fin ns.length),pre.length<=ns.length->Ext T (RP T ns pre)/\(RP T ns pre).1.length<=fU
 lt:∀ x∈ns,x<T.length
set_option maxRecDepth 100000 in
set_option maxHeartbeats 4000000 in
theorem Kh {w:World} {t:TB} {T:List Te} {S C:List (Value×Value)} {a:Option Addr} {ln cap:Nat} {ns:List Nat} (h:Hid (aX w t T (ak T) S C)) (hs:Hid (VG w (fun k=>k<w.heap.size/\¬ TF t k) (.slice a ln cap) ns)) (hn:Hid (Kg T ns)) (hT:1<T.length) (hz:ns.length<=100000) :
  Calls Tryz.prog 80 #[.pointer (some ⟨t.tb,0,none⟩),.slice a ln cap] w (FO (zI T ns) w t S C):=by
 refine (callsIn_wide (n:=6)).1 ?_
 refine callsIn_of_wp_marks Tryz.func80 rfl trivial ?_ rfl
 simp only [Tryz.ntmps80,List.size_toArray,List.length_cons,List.length_nil,Nat.reduceAdd,Nat.reduceSub,Array.replicate_succ,Array.replicate_zero,List.push_toArray,List.append_toArray,List.nil_append,List.cons_append]
 have HBK:=hide (fun W=>aaO 5 a ln cap W)
 have hf:Fence.wide.fn 115:=trivial
 gi_wp2_with (gi_at_call 115;refine (aa HBK _).mono ?_;rintro e w1 ⟨rfl,rfl⟩)
 have hsz1:(w.alloc (.cells #[.pointer (some ⟨t.tb,0,none⟩)] 86)).heap.size=w.heap.size+1:=by simp
 have hsz2:((w.alloc (.cells #[.pointer (some ⟨t.tb,0,none⟩)] 86)).alloc (.cells #[.int .i64 1] 3)).heap.size=w.heap.size+1+1:=by simp
 have bT:=((Boxed.new w 86 (.pointer (some ⟨t.tb,0,none⟩))).alloc (.cells #[.int .i64 1] 3)).alloc (.cells #[.slice a ln cap] 31)
 have bN:=(Boxed.new (w.alloc (.cells #[.pointer (some ⟨t.tb,0,none⟩)] 86)) 3 (.int .i64 1)).alloc (.cells #[.slice a ln cap] 31)
 have bS:=Boxed.new ((w.alloc (.cells #[.pointer (some ⟨t.tb,0,none⟩)] 86)).alloc (.cells #[.int .i64 1] 3)) 31 (.slice a ln cap)
 rw [hsz1] at bN
 rw [hsz2] at bS
 have hsz:(((w.alloc (.cells #[.pointer (some ⟨t.tb,0,none⟩)] 86)).alloc (.cells #[.int .i64 1] 3)).alloc (.cells #[.slice a ln cap] 31)).heap.size=w.heap.size+3:=by simp
 have HB0:Hid (Below w.heap.size w (((w.alloc (.cells #[.pointer (some ⟨t.tb,0,none⟩)] 86)).alloc (.cells #[.int .i64 1] 3)).alloc (.cells #[.slice a ln cap] 31))):=(((Below.refl _ w).alloc (Nat.le_refl _) _).alloc (by rw [hsz1];omega) _).alloc (by rw [hsz2];omega) _
 obtain ⟨W0,hW0⟩:∃ W0,((w.alloc (.cells #[.pointer (some ⟨t.tb,0,none⟩)] 86)).alloc (.cells #[.int .i64 1] 3)).alloc (.cells #[.slice a ln cap] 31)=W0:=⟨_,rfl⟩
 rw [hW0] at bT bN bS hsz HB0 ⊢
 clear hW0 hsz1 hsz2
 have hnw:∀ k,w.heap.size<=k->¬ TF t k:=fun k hk=>aX.dS h hk
 have hkl:∀ k,((k<w.heap.size/\¬ TF t k)\/k=w.heap.size+1+1)->k<W0.heap.size:=fun k hk=>by rw [hsz];omega
 have hNs:VG W0 (fun k=>(k<w.heap.size/\¬ TF t k)\/k=w.heap.size+1+1) (.slice a ln cap) ns:=by
  rcases aa hs with e | ⟨b,cp,e,hb,hc⟩
  ·exact .inl e
  ·exact .inr ⟨b,cp,e,.inl hb,fun j hj=>((aa HB0).cell (p:=⟨b,j,none⟩) hb.1).trans (hc j hj)⟩
 have hseq:=Kc 5 (by omega) (w.heap.size+1+1) (fun k=>(k<w.heap.size/\¬ TF t k)\/k=w.heap.size+1+1) _ ns (by omega) W0 (.inr rfl) hkl bS.cell hNs
 have hfn:Fence.wide.fn 116:=trivial
 have hg:=aa h
 have hnb:t.nb<W0.heap.size/\t.sb<W0.heap.size/\t.cb<W0.heap.size:=⟨Nat.lt_of_lt_of_le (hg.foot (.inr (.inl rfl))) (aa HB0).size,Nat.lt_of_lt_of_le (hg.foot (.inr (.inr (.inl rfl)))) (aa HB0).size,Nat.lt_of_lt_of_le (hg.foot (.inr (.inr (.inr (.inl rfl))))) (aa HB0).size⟩
 refine wpIn_rangeFunc_ownH rfl (by omega) (gf:=162) (lb:=#[.pointer (some ⟨w.heap.size+1+1,0,none⟩)]) rfl trivial (enters_of Tryz.func162 (by kernel_rfl) rfl)
  hseq LZ.trans (fun W l o o' hl ho hc1 hc2=>⟨by simp,fun k hk hkl'=>by
   have:=hkl k hk
   exact (grownBy_putObj' W l o').block k hkl' (fun e=>by cases e;omega)⟩) (Below.refl _ _) (fun _=>rfl)
  (RwI w W0 t S C T ns w.heap.size (w.heap.size+1) (w.heap.size+1+1)) (fun _ _ _=>False)
  (RwI.own hnb (aa HB0).size) (fun _ _ _ _ _ hs _ _=>hs)
  ⟨t,aX.below h (aa HB0),hide (a_.below (aa HB0)),⟨hnw _ (Nat.le_refl _),hnw _ (by omega),hnw _ (by omega)⟩,bN,bT,Nat.le_refl _⟩
  (fun x a' _=>a'={ tmps:=#[.pointer (some ⟨t.tb,0,none⟩),.slice a ln cap,.pointer (some ⟨w.heap.size,0,none⟩),undef,.int .i64 0,.pointer (some ⟨w.heap.size+1,0,none⟩),undef,.int .i64 (ns[x.val]:Int),.slice a ln cap,.func (.func 162) #[] #[.pointer (some ⟨w.heap.size+1+1,0,none⟩)],.int .i64 (x.val:Int),.int .i64 (ns[x.val]:Int),undef,undef,undef,undef,undef],defers:=[] })
  (fun x a' _ X Y row hs hg hr=>hs)
  ?assign ?body ?done ?stop
 case assign=>
  intro l pre x W K hI hK
  simp only [VI]
  gi_wp2
  exact hK _ _ (KeepsFrom.refl _ _) (LZ.refl _ _) hI rfl
 case body=>
  rintro l pre x a' W hl' - ⟨t',H1,H2,⟨a1,a2,a3⟩,b4,b5,b6⟩ rfl hlt
  obtain ⟨hE,hEl⟩:=(aa hn).ok pre (by omega)
  obtain ⟨hE2,Nl⟩:=(aa hn).ok (pre++[x]) (by simp;omega)
  have hxl:ns[x.val]<T.length:=(aa hn).lt _ (List.getElem_mem _)
  have hlen:=hE.len
  have hCH:=Ej (S:=S) (C:=C) (fU+1) W t' (RP T ns pre).1 ns[x.val] (RP T ns pre).2 (by omega) H1 hE.wf (by omega) (by omega) hE.lt (by
   rw [Pw] at Nl
   exact Nl)
  rw [(aa H2).tb] at hCH
  have HSN:=hide (Pw T ns pre x)
  rw [show dB (fU+1) (RP T ns pre).1 ns[x.val] (RP T ns pre).2=RP T ns (pre++[x]) from (aa HSN).symm] at hCH
  have Nn:=hide ((callsIn_wide (n:=3)).2 hCH)
  clear hCH HSN hE hEl hE2 Nl hxl hlen
  have cT:=b5.cell
  have cN:=b4.cell
  generalize ns[x.val]=nx at *
  generalize (RP T ns pre).2=r0 at *
  obtain ⟨r1,hr1⟩:∃ r1,(RP T ns (pre++[x])).2=r1:=⟨_,rfl⟩
  gi_wp2_with (gi_at_call 116;refine (aa Nn).mono ?_;clear Nn;rintro e w2 ⟨rfl,t2,HT2,uJ⟩;have c4:=hide ((aa uJ).block _ b4.lt a2);have b4':Boxed w2 (w.heap.size+1) 3 (.int .i64 (r0:Int)):=(aa c4).trans b4;have f4:=b4'.frozen;have c4':=b4'.cell)
  have g2:=aa uJ
  have h2:=aa H2
  have gs:=grownBy_setCell' w2 (w.heap.size+1) (.int .i64 (r1:Int))
  have hN:w.heap.size+1<W.heap.size:=b4.lt
  have hft:∀ k,k<W.heap.size->¬ TF t' k->¬ TF t2 k:=fun k hk hn' hf'=>(g2.foot hf').elim hn' (fun e=>by omega)
  have hsW:=g2.size
  refine ⟨⟨Nat.le_trans hsW gs.size,fun k o hk ho hc=>?_⟩,⟨Nat.le_trans hsW gs.size,fun k hk hkl'=>?_⟩,⟨t2,hide ((aa HT2).move (fun k hk hkl'=>jZ _ _ _ hkl' (fun e=>hft _ hN a2 (e▸hk)))),hide ?_,⟨hft _ (by omega) a1,hft _ hN a2,hft _ (by omega) a3⟩,?_,?_,?_⟩⟩
  ·have hkl':k<W.heap.size:=(Array.getElem?_eq_some_iff.1 ho).1
   rw [jZ _ _ _ (by omega) (by omega),g2.block k hkl' (TF.cells (aa H1) h2 hnb hk ho hc)]
   exact ho
  ·have hnt:¬ TF t' k:=by
    rcases hk with ⟨e1,e2⟩ | e
    ·exact fun hf'=>(h2.foot hf').elim e2 (fun e=>by omega)
    ·rw [e];exact a3
   have hne:k≠w.heap.size+1:=by omega
   rw [jZ _ _ _ (by omega) hne]
   exact g2.block k hkl' hnt
  ·have hh:=h2.trans g2
   exact ⟨hh.os,hh.tape,hh.output,Nat.le_trans hh.size gs.size,fun k hk hf'=>(jZ _ _ _ (by have:=hh.size;omega) (by omega)).trans (hh.block k hk hf'),hh.tb,hh.nb,hh.sb,hh.cb,hh.row⟩
  ·rw [hr1];exact b4'.set _
  ·have:Boxed w2 w.heap.size 86 (.pointer (some ⟨t.tb,0,none⟩)):=(g2.block _ b5.lt a1).trans b5
   exact this.other (by omega) _
  ·exact Nat.le_trans b6 (Nat.le_trans hsW gs.size)
 case done=>
  rintro D ys W hD rfl ⟨t',H1,H2,-,b4,b5,b6⟩ hK
  rw [abP] at H1 b4
  have cN:=b4.cell
  obtain ⟨R,hR⟩:∃ R,zI T ns=R:=⟨_,rfl⟩
  rw [hR] at H1 b4 cN ⊢
  gi_wp2
  subst hR
  refine ⟨by simp,.inl ⟨_,_,rfl,run_takeDeferred hK,?_⟩⟩
  have hDn:¬ TF t' D:=TF.cells (aa H1) (aa H2) hnb hD hK rfl
  have hg2:=grownBy_putObj' W D (.deferred none)
  refine ⟨_,results_tmp rfl _ _ _,rfl,t',hide ((aa H1).move fun k hk hkl'=>hg2.block k hkl' (fun e=>by cases e;exact hDn hk)),hide ?_⟩
  have h2:=aa H2
  have hsz0:=(aa HB0).size
  exact ⟨hg2.os.trans h2.os,hg2.tape.trans h2.tape,hg2.output.trans h2.output,Nat.le_trans h2.size hg2.size,fun k hk hf'=>(hg2.block k (by have:=h2.size;omega) (fun e=>by cases e;omega)).trans (h2.block k hk hf'),h2.tb,h2.nb,h2.sb,h2.cb,h2.row⟩
 case stop=>
  rintro D c pre W _ _ hF _
  exact hF.elim
end Go.Proofs.YtfolanohokflkaaGreatDoor
namespace Go.Proofs.YtfolanohokflkaaGreatDoor
open Go.RowKit Go.Shelf
attribute [local go_sem] Oper.semAt_some
theorem Ai {w:World} {B e size g n cap:Nat} {xs:List Value} (h:w.ownsRow B e size (.slice (some ⟨g,0,none⟩) n cap) n xs):n<=cap:=by
 obtain ⟨hl,⟨hv,_⟩ | ⟨g',cap',cur,hv,hb,hg,hn,rest⟩⟩:=h
 ·cases hv
 ·injection hv with _ _ e
  omega
section
variable {w:World} {t:TB} {T:List Te} {S C:List (Value×Value)}
end
end Go.Proofs.YtfolanohokflkaaGreatDoor
