import Derived.Test.YtfolanohokflkaaGreatDoorKlD
import Derived.Test.YtfolanohokflkaaGreatDoorRpI
import Derived.Test.YtfolanohokflkaaGreatDoorLnP
import Derived.Test.YtfolanohokflkaaGreatDoorOnlA
import Derived.WalkKit
import Derived.WalkSpells
import Derived.WalkLawsBesides
import Derived.WalkMore
import Derived.Deep.QuietTactic
import Derived.BigQuiet
namespace Go.Proofs.YtfolanohokflkaaGreatDoor
open Go.RowKit
open Tm (eps)
structure Fw (P:Tm->Prop):Prop where
 head:∀ {a b:Tm},P (.chain a b)->P a
 next:∀ {a b:Tm},P (.chain a b)->di a=true->P b
 star:∀ {a:Tm},P (.star a)->P a
 neg:∀ {a:Tm},P (.not a)->P a
 mem:∀ {k:Bool} {a b m:Tm},P (.aZ k a b)->m∈memT k (.aZ k a b)->P m
 few:∀ {y:Tm} (k:Bool),P y->(memT k y).length<=200000
theorem Kn.fw {G:List Gx} {Vd:Tm->Int->Prop} (h:Kn G Vd) (c:Int):Fw (fun y=>Vd y c):=
 ⟨h.head,h.next,h.star,h.neg,h.mem,fun k hy=>(h.few k hy).1⟩
section
variable {t:TB} {T:List Te} {S:List (Value×Value)} {B:List Int} {P:Tm->Prop}
theorem Sg (k:Bool) (args:Array Value) (w:World):(callFunc (kF3 k) args).run Tryz.prog w=.ok (.enter (kF3 k) args) w:=by
 cases k
 ·exact aL Tryz.func182 (by kernel_rfl) (by kernel_rfl) args w
 ·exact aL Tryz.func185 (by kernel_rfl) (by kernel_rfl) args w
theorem ND (hT:TI B T) (hB:B.length<=480) (hTL:T.length<=fU) (hP:Fw P):∀ n y,Rp T n y->P y->GR t T S (n+1) n:=by
 intro n
 induction n using Nat.strongRecOn with
 | _ n ih=>
  intro y hr hy
  have hn:n<=fU:=by have:=hr.lt;omega
  have hcn:=hT.cn hr
  have up:∀ {i:Nat} {z:Tm},i<n->Rp T i z->P z->GR t T S n i:=fun hi hz hpz=>⟨hi,(ih _ hi _ hz hpz).2⟩
  refine ⟨Nat.lt_succ_self n,y,hr,hcn.ok,fun l hl=>by have:=hl.len hcn.ok (hT.sin n y hr);omega,fun W C h hc=>?_⟩
  have hr0:=hr
  cases hr with
  | set hx ht=>
   exact jd hr0 h hc hx hn (m:=0) rfl (by decide) rfl (aL Tryz.func166 (by kernel_rfl) (by kernel_rfl)) (hide fun W hW hcW=>abK hW hcW hB ht (hT.sin n _ hr0) _)
  | eps hx=>
   exact jd hr0 h hc hx hn (m:=1) rfl (by decide) rfl (aL Tryz.func170 (by kernel_rfl) (by kernel_rfl)) (hide fun W hW hcW=>VB hW hcW _)
  | @chain _ i j s u b hx hs hu=>
   obtain ⟨h1,h2⟩:=r_ hT.wf hx
   obtain ⟨⟨ki,bi⟩,hxi⟩:=hT.at hs
   exact jd hr0 h hc hx hn (m:=2) rfl (by decide) rfl (aL Tryz.func173 (by kernel_rfl) (by kernel_rfl)) (hide fun W hW hcW=>VT hW hcW (up h1 hs (hP.head hy)) hs hxi (hT.null hs hxi) hu fun hb=>up h2 hu (hP.next hy (by rw [<-hT.null hs hxi];exact hb)))
  | @star _ i s b hx hs=>
   exact jd hr0 h hc hx hn (m:=3) rfl (by decide) rfl (aL Tryz.func177 (by kernel_rfl) (by kernel_rfl)) (hide fun W hW hcW=>Zq hW hcW (up (wX hT.wf hx) hs (hP.star hy)) hs)
  | @not _ i s b hx hs=>
   exact jd hr0 h hc hx hn (m:=6) rfl (by decide) rfl (aL Tryz.func188 (by kernel_rfl) (by kernel_rfl)) (hide fun W hW hcW=>abV hW hcW (up (Cm hT.wf hx) hs (hP.neg hy)) hs)
  | @aZ _ i j k s u b hx hs hu=>
   obtain ⟨h1,h2⟩:=ve hT.wf hx
   obtain ⟨l,hl⟩:=ky.rp (k:=k) hu
   have sp:ky T k n (i::l):=.more hx hl
   obtain ⟨⟨a,c,e⟩,-⟩:=(hT.XV hr0).yes k i j b hx
   have nR:=Ah hT hr0 sp
   have hf2:=hP.few k hy
   rw [e] at hy hr0 nR hf2 ⊢
   have hmem:=fun x=>hT.mem hr0 sp x
   have hlen:(i::l).length=l.length+1:=rfl
   refine jd hr0 h hc hx hn (m:=if k=true then 5 else 4) (f:=kF3 k) (by cases k<;>rfl) (by cases k<;>decide) (by cases k<;>rfl) (Sg k) (hide fun W hW hcW=>abW hW hcW hT.wf hl (by omega) (fun m hm=>?_) fun c=>?_)
   ·have hmn:m<n:=by
     rcases List.mem_cons.1 hm with q | q
     ·omega
     ·have:=hl.le hT.wf m q;omega
    obtain ⟨x,hx1,-⟩:=hT.all m (by have:=hr0.lt;omega)
    exact up hmn hx1 (hP.mem hy ((hmem x).2 ⟨m,hm,hx1⟩))
   ·rw [GG (k:=k)]
    constructor
    ·rintro ⟨x,hx1,q⟩
     obtain ⟨m,hm,hx2⟩:=(hmem x).1 hx1
     exact ⟨m,hm,x,hx2,q⟩
    ·rintro ⟨m,hm,x,hx2,q⟩
     exact ⟨x,(hmem x).2 ⟨m,hm,hx2⟩,q⟩
theorem Ko {w:World} {C:List (Value×Value)} (hT:TI B T) (hB:B.length<=480) (hTL:T.length<=fU) (hP:Fw P) {n:Nat} {y:Tm} (hr:Rp T n y) (hy:P y) (h:Hid (aX w t T (ak T) S C)) (hc:Hid (iC w t T C)) :
  Calls Tryz.prog 125 #[.pointer (some ⟨t.tb,0,none⟩),.int .i64 n] w (mG y w t T S C (fun j=>j<=n)):=
 (Aj (ND hT hB hTL hP n y hr hy) hr).2 w C h hc
end
end Go.Proofs.YtfolanohokflkaaGreatDoor
namespace Go.Proofs.YtfolanohokflkaaGreatDoor
open Go.RowKit
def j_ (n:Nat) (c:Int):Value:=.agg #[.int .i64 (n:Int),.int .i32 c]
theorem xh {n m:Nat} {c d:Int} (h:j_ n c=j_ m d):n=m/\c=d:=by
 simp only [j_,Value.agg.injEq,Array.mk.injEq,List.cons.injEq,Value.int.injEq,true_and,and_true] at h
 omega
theorem VW:(match Tryz.prog.underlying 227 with | some (.array _ _) | some (.struct _)=>true | _=>false)=true:=by kernel_rfl
theorem abY:Tryz.prog.keyTypeAt 2 227=true:=by kernel_rfl
set_option maxRecDepth 100000 in
theorem Zr:Tryz.prog.tiled 2 227=true:=by kernel_rfl
set_option maxRecDepth 100000 in
theorem tX:Maps.Keyed Tryz.prog 227:=Maps.Keyed.of_law (deep_law (m:=2) (by omega) abY Zr VW)
theorem abZ:Tryz.prog.keyType 227=true:=by kernel_rfl
theorem PD:Tryz.prog.cellsOf 227=2/\Tryz.prog.cellsOf 21=1:=⟨by kernel_rfl,by kernel_rfl⟩
theorem NF {n:Nat} {c:Int} (hn:n<=fU) (hc:(Lit.int .i32 c).wf=true):∃ l,keyOf Tryz.prog 227 (j_ n c)=some l:=by
 have hf:(j_ n c).formed Tryz.prog 227=true:=by kernel_rfl
 have hl:∀ q,Tryz.prog.keyLits (q+2) 227 (j_ n c).cells.toList=some [.int .i64 (n:Int),.int .i32 c]:=by
  intro q
  simp [Program.keyLits,j_,Value.cells,go_sem,lT hn,hc,PD.1,PD.2,vJ.2.2.2]
 obtain ⟨q,hq⟩:∃ q,Tryz.prog.types.size+1=q+2:=⟨Tryz.prog.types.size - 1,by have:0<Tryz.prog.types.size:=of_decide_eq_true (by kernel_rfl);omega⟩
 have hw:=VW
 unfold keyOf
 rw [abZ,hf,hq,hl]
 cases hu:Tryz.prog.underlying 227 with
 | none=>rw [hu] at hw;cases hw
 | some d=>
  rw [hu] at hw
  cases d<;>simp at hw<;>exact ⟨_,rfl⟩
section
variable {w:World} {t:TB} {T:List Te} {S C:List (Value×Value)} {k:Ky}
end
end Go.Proofs.YtfolanohokflkaaGreatDoor
