import Derived.Test.YtfolanohokflkaaGreatDoorTabC
import Derived.WalkKit
import Derived.WalkSpells
import Derived.WalkLawsBesides
import Derived.WalkMore
import Derived.Deep.OwnRows
import Derived.Laws.BytesArg
import Derived.Laws.BitsAllLaws
import Derived.Test.YtfolanohokflkaaGreatDoorAfE
import Derived.Test.YtfolanohokflkaaGreatDoorSoN
namespace Go.Proofs.YtfolanohokflkaaGreatDoor
open Go.RowKit
theorem Xx (i:Nat) (hi:i<100) (w:World) :
  Calls Tryz.prog 150 #[.int .i64 (i:Int),.int .i64 10] w fun e w'=>e=.returned (.string ⟨(Lib.decDigits i).toArray⟩)/\w=w':=by
 have H:=hide (Tryz.internal_strconv_small i hi w)
 go_enter Tryz.func150,Tryz.ntmps150
 go_wp2_with (go_at_call 223;refine (aa H).mono ?_;clear H;rintro e w' ⟨rfl,rfl⟩)
 go_ret
 exact ⟨rfl,rfl⟩
theorem aan (i:Nat) (hi:i<100) (w:World) :
  Calls Tryz.prog 103 #[.int .i64 (i:Int)] w fun e w'=>e=.returned (.string ⟨(Lib.decDigits i).toArray⟩)/\w=w':=by
 have H:=hide (Xx i hi w)
 go_enter Tryz.func103,Tryz.ntmps103
 go_wp2_with (go_at_call 150;refine (aa H).mono ?_;clear H;rintro e w' ⟨rfl,rfl⟩)
 go_ret
 exact ⟨rfl,rfl⟩
theorem LA (i:Nat) (hi:i<100) (w:World) :
  Calls Tryz.prog 73 #[.int .i64 (i:Int)] w fun e w'=>e=.returned (.string ⟨(Lib.decDigits i).toArray⟩)/\w=w':=by
 have H:=hide (aan i hi w)
 go_enter Tryz.func73,Tryz.ntmps73
 go_wp2_with (go_at_call 103;refine (aa H).mono ?_;clear H;rintro e w' ⟨rfl,rfl⟩)
 go_ret
 exact ⟨rfl,rfl⟩
theorem acB:∀ n:Fin 100,44∉Lib.decDigits n.val/\59∉Lib.decDigits n.val/\(Lib.decDigits n.val).length<=2:=by decide +kernel
abbrev tx (b:List UInt8):ByteArray:=⟨b.toArray⟩
def strCells (l:List (List UInt8)):List Value:=l.map fun b=>.string (tx b)
theorem zM (a c:List (List UInt8)):strCells (a++c)=strCells a++strCells c:=by simp [strCells]
theorem aao:(Tryz.prog.info? 9).map (fun i=>(i.zero,i.size,i.bytes))=some (some (.string ⟨#[]⟩),1,16):=by kernel_rfl
theorem p9 (a b:List UInt8) (r:List (List UInt8)) (sep:List UInt8):Lib.join (a::b::r) sep=a++(sep++Lib.join (b::r) sep):=by
 rw [Lib.join_cons,Lib.join_cons]
 simp [Lib.joinTail]
theorem LB {M:Nat} {sep:List UInt8}:∀ l:List (List UInt8),(∀ x∈l,x.length<=M)->(Lib.join l sep).length<=l.length*(M+sep.length)
 | [],_=>by simp [Lib.join_nil]
 | [a],h=>by
  rw [Lib.join_one]
  have:=h a (by simp)
  simp
  omega
 | a::b::r,h=>by
  rw [p9]
  have h1:=h a (by simp)
  have h2:=LB (M:=M) (sep:=sep) (b::r) (fun x hx=>h x (List.mem_cons_of_mem _ hx))
  simp only [List.length_append,List.length_cons] at h2 ⊢
  rw [Nat.succ_mul]
  omega
theorem Td {w:World} {B:Nat} {ao:Option Addr} {cap:Nat} {ss:List (List UInt8)} (sep:List UInt8) (h:w.ownsRow B 9 1 (.slice ao ss.length cap) ss.length (strCells ss)) (hN:ss.length<=1000) (hl:(Lib.join ss sep).length<=140737488355328) :
  Calls Tryz.prog 74 #[.slice ao ss.length cap,.string (tx sep)] w fun e w'=>e=.returned (.string (tx (Lib.join ss sep)))/\Below w.heap.size w w':=by
 obtain ⟨_,⟨hv,hn⟩ | ⟨g,cap',cur,hv,hb,hg,h1,h2,h3,h4⟩⟩:=id h
 ·injection hv with e1 e2 e3
  obtain rfl:ss=[]:=List.length_eq_zero_iff.1 hn
  refine (Tryz.strings_Join_none ao cap (tx sep) w).mono ?_
  rintro e w' ⟨rfl,rfl⟩
  exact ⟨rfl,Below.refl _ _⟩
 ·injection hv with e1 e2 e3
  subst e1
  subst e3
  have hxl:(ss.map tx).length=ss.length:=List.length_map _
  have hj:(ss.map tx).map (·.data.toList)=ss:=by
   rw [List.map_map]
   have:ss.map ((fun b:ByteArray=>b.data.toList) ∘ tx)=ss.map id:=List.map_congr_left (fun x _=>by simp)
   rw [this,List.map_id]
  have hs:(tx sep).data.toList=sep:=by simp
  have hc:=Tryz.strings_Join g 0 cap (ss.map tx) (tx sep) w (fun j x hx=>?_) (Array.getElem?_eq_some_iff.1 hg).1 (by rw [hxl];omega) (by rw [hxl];exact h1) (by rw [hj,hs];exact hl)
  ·rw [hj,hs,hxl] at hc
   exact hc
  ·have hj':j<ss.length:=by
    have:=(List.getElem?_eq_some_iff.1 hx).1
    simpa using this
   have hcell:(strCells ss)[j]? = some (.string x):=by
    unfold strCells
    rw [List.getElem?_map] at hx ⊢
    obtain ⟨y,hy,rfl⟩:=Option.map_eq_some_iff.1 hx
    rw [hy]
    rfl
   rw [Nat.zero_add]
   rw [h.cellAt j (by omega)]
   exact hcell
theorem t_ {n:Nat} (h:n<100):(Lib.decDigits n).length<=2:=(acB ⟨n,h⟩).2.2
end Go.Proofs.YtfolanohokflkaaGreatDoor
