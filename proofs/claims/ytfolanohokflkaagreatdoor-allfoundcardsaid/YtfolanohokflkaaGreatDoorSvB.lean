import Derived.Test.YtfolanohokflkaaGreatDoorSvA
import Derived.Test.YtfolanohokflkaaGreatDoorRefC
namespace Go.Proofs.YtfolanohokflkaaGreatDoor
open Go.RowKit Go.Shelf
attribute [local go_sem] Oper.semAt_some
def aJ:List (Int×Int)->List Value
 | []=>[]
 | x::r=>.int .i32 x.1::.int .i32 x.2::aJ r
theorem iI (a:List (Int×Int)):(aJ a).length=a.length*2:=by
 induction a with
 | nil=>rfl
 | cons x a ih=>simp [aJ,ih];omega
theorem iJ (a b:List (Int×Int)):aJ (a++b)=aJ a++aJ b:=by
 induction a with
 | nil=>rfl
 | cons x a ih=>simp [aJ,ih]
def uL (W:World) (B:Nat) (x:Int×Int):Prop:=W.heap[B]? = some (.cells #[.int .i32 x.1,.int .i32 x.2] 248 (0,0))
theorem uL.lt {W:World} {B:Nat} {x:Int×Int} (h:uL W B x):B<W.heap.size:=(Array.getElem?_eq_some_iff.1 h).1
theorem uL.c0 {W:World} {B:Nat} {x:Int×Int} (h:uL W B x):W.cell? ⟨B,0,none⟩=some (.int .i32 x.1):=by simp [World.cell?,show W.heap[B]? = _ from h]
theorem uL.c1 {W:World} {B:Nat} {x:Int×Int} (h:uL W B x):W.cell? ⟨B,1,none⟩=some (.int .i32 x.2):=by simp [World.cell?,show W.heap[B]? = _ from h]
theorem uL.new (W:World) (x:Int×Int):uL (W.alloc (.cells #[.int .i32 x.1,.int .i32 x.2] 248)) W.heap.size x:=World.alloc_heap_new W _
theorem uL.kept {W W':World} {row:Option Nat} {B:Nat} {x:Int×Int} (h:uL W B x) (hg:W.grownBy W' row) (hne:some B≠row):uL W' B x:=(hg.block B h.lt hne).trans h
theorem oZ:(Tryz.prog.info? 248).map (fun i=>(i.zero,i.size,i.bytes))=some (some (.agg #[.int .i32 0,.int .i32 0]),2,8):=by kernel_rfl
def aei (w:World) (pre:List (Int×Int)) (W:World):Prop:=(∃ v,Boxed W w.heap.size 237 v/\W.ownsRow w.heap.size 248 2 v pre.length (aJ pre)/\True)/\Below w.heap.size w W
set_option maxRecDepth 100000 in
set_option maxHeartbeats 4000000 in
theorem appendSeq_in (n:Nat) (hn:3<=n) (lb:Array Value) (zs:List (Int×Int)) (hz:zs.length<=100000) (w:World)
  (hseq:SeqStopsK Fence.wide (n - 1) Tryz.prog 270 lb (fun x:Int×Int=>#[ry x]) (Below w.heap.size) (fun ys=>ys=zs) (fun pre=>pre <+: zs) zs.length w) :
  CallsIn Fence.wide n Tryz.prog 289 #[.slice none 0 0,.func (.func 270) #[] lb] w fun e W'=>∃ v,e=.returned v/\W'.ownsRow w.heap.size 248 2 v zs.length (aJ zs)/\Below w.heap.size w W':=by
 have h1:1<=n:=by omega
 obtain ⟨i0,hi,hz0,hz1,hz2⟩:=info_parts oZ
 refine callsIn_of_wp_marks Tryz.func289 rfl trivial ?_ rfl
 simp only [Tryz.ntmps289,List.size_toArray,List.length_cons,List.length_nil,Nat.reduceAdd,Nat.reduceSub,Array.replicate_succ,Array.replicate_zero,List.push_toArray,List.append_toArray,List.nil_append,List.cons_append]
 gi_wp2
 have bS:=Boxed.new w 237 (.slice none 0 0)
 have hB0:Below w.heap.size w (w.alloc (.cells #[.slice none 0 0] 237)):=(Below.refl _ w).alloc (Nat.le_refl _) _
 have hsz:(w.alloc (.cells #[.slice none 0 0] 237)).heap.size=w.heap.size+1:=by simp
 obtain ⟨W0,hW0⟩:∃ W0,w.alloc (.cells #[.slice none 0 0] 237)=W0:=⟨_,rfl⟩
 rw [hW0] at bS hB0 hsz ⊢
 clear hW0
 refine wpIn_rangeFunc_ownH rfl h1 (gf:=270) (lb:=lb) rfl trivial (enters_of Tryz.func270 (by kernel_rfl) rfl)
  hseq belowK_t (belowK_b (by omega)) hB0 (fun _=>rfl)
  (aei w) (fun _ _ _=>False)
  (OwnFrom.and (Own.from (holdsRow_own w.heap.size w.heap.size 237 248 2 (fun pre:List (Int×Int)=>pre.length) (fun pre=>aJ pre) (fun _ _=>True)) _) (ownFrom_below (Nat.le_refl _) (by omega)))
  (fun _ _ _ _ _ hs _ _=>hs)
  ⟨⟨_,bS,World.ownsRow_nil _ _ _ _,trivial⟩,hB0⟩
  (fun x a' W=>∃ Bx,w.heap.size<Bx/\uL W Bx x/\a'={ tmps:=#[.slice none 0 0,.func (.func 270) #[] lb,.pointer (some ⟨w.heap.size,0,none⟩),undef,.slice none 0 0,.pointer (some ⟨Bx,0,none⟩),.func (.func 270) #[] lb,ry x,undef,undef,undef,undef,undef],defers:=[] })
  (fun x a' _ X Y row hs hg hr=>by obtain ⟨Bx,h1,h2,h3⟩:=hs;exact ⟨Bx,h1,h2.kept hg (fun e'=>by obtain ⟨o,ho,hc⟩:=(hr Bx e'.symm).2;rw [show X.heap[Bx]? = _ from h2] at ho;cases ho;cases hc),h3⟩)
  ?assign ?body ?done ?stop
 case assign=>
  rintro l pre x W K ⟨⟨v,bV,hrow,-⟩,hB1⟩ hK
  simp only [ry]
  gi_wp2
  exact hK _ _ ((KeepsOthers.alloc _ _).from _) ((Below.refl _ W).alloc hB1.size _) ⟨⟨v,bV.alloc _,hrow.alloc _,trivial⟩,hB1.alloc hB1.size _⟩ ⟨W.heap.size,bV.lt,uL.new W x,rfl⟩
 case body=>
  rintro l pre x a' W hl ⟨r,hr⟩ ⟨⟨v,bV,hrow,-⟩,hB1⟩ ⟨Bx,hBx,bX,rfl⟩ hlt
  have cV:=bV.cell
  have fV:=bV.frozen
  have cX0:=bX.c0
  have cX1:=bX.c1
  have hsW:=hB1.size
  have hpl:pre.length<=100000:=by omega
  gi_wp2_with (gi_at_builtin;refine wpListIn_append_own _ rfl _ _ 237 rfl w.heap.size 248 i0 (.agg #[.int .i32 0,.int .i32 0]) 2 8 Tryz.underlying237 hi hz0 hz1 hz2 rfl (by decide) _ _ _ rfl (hrow.alloc _) ⟨W.heap.size,0,none⟩ 1 1 [.int .i32 x.1,.int .i32 x.2] rfl rfl (bz W [.int .i32 x.1,.int .i32 x.2] _) (by intro u hu;simp at hu;rcases hu with rfl | rfl<;>rfl) (by unfold maxLen;omega) (by omega) (by simp;omega) ?_;intro v' w1 hown' hgrow _;obtain ⟨g',cap',rfl⟩:=ownsRow_succ hown';obtain ⟨hv1,hv2,hr2,hk2,hb2⟩:=bV.appended (by decide) hrow hB1.size (Nat.le_refl _) hown' hgrow;have hc1:=hv1.cell;have hf1:=hv1.frozen)
  refine ⟨hk2.from _,hb2,⟨_,hv2,?_,trivial⟩,hB1.trans hb2⟩
  have e1:(pre++[x]).length=pre.length+1:=by simp
  rw [e1,iJ]
  exact hr2
 case done=>
  rintro D ys W hD rfl ⟨⟨v,bV,hrow,-⟩,hB1⟩ hK
  have cV:=bV.cell
  gi_wp2
  refine ⟨by simp,.inl ⟨_,_,rfl,run_takeDeferred hK,?_⟩⟩
  refine ⟨_,results_tmp rfl _ _ _,v,rfl,ownsRow_putObj hrow _ hK rfl,hB1.trans (belowK_b (w:=w) (Nat.le_refl _) W D _ _ (by omega) hK rfl rfl)⟩
 case stop=>
  rintro D c pre W _ _ hF _
  exact hF.elim
set_option maxHeartbeats 1000000 in
theorem collect_in (n:Nat) (hn:4<=n) (lb:Array Value) (zs:List (Int×Int)) (hz:zs.length<=100000) (w:World)
  (hseq:SeqStopsK Fence.wide (n - 1 - 1) Tryz.prog 270 lb (fun x:Int×Int=>#[ry x]) (Below w.heap.size) (fun ys=>ys=zs) (fun pre=>pre <+: zs) zs.length w) :
  CallsIn Fence.wide n Tryz.prog 268 #[.func (.func 270) #[] lb] w fun e W'=>∃ v,e=.returned v/\W'.ownsRow w.heap.size 248 2 v zs.length (aJ zs)/\Below w.heap.size w W':=by
 have hA:=appendSeq_in (n - 1) (by omega) lb zs hz w hseq
 have hf:Fence.wide.fn 289:=trivial
 have hn1:1<=n:=by omega
 refine callsIn_of_wp Tryz.func268 rfl trivial ?_ rfl
 simp only [Tryz.ntmps268,List.size_toArray,List.length_cons,List.length_nil,Nat.reduceAdd,Nat.reduceSub,Array.replicate_succ,Array.replicate_zero,List.push_toArray,List.append_toArray,List.nil_append,List.cons_append]
 gi_wp2_with (gi_at_call 289;refine hA.mono ?_;rintro e w1 ⟨v,rfl,h1,h2⟩)
 go_ret
 exact ⟨v,rfl,h1,h2⟩
end Go.Proofs.YtfolanohokflkaaGreatDoor
