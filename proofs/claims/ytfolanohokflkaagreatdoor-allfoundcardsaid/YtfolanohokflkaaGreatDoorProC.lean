import Derived.Test.YtfolanohokflkaaGreatDoorTabC
import Derived.Test.YtfolanohokflkaaGreatDoorDec
import Derived.Test.YtfolanohokflkaaGreatDoorAfE
import Derived.WalkKit
import Derived.WalkSpells
import Derived.WalkLawsBesides
import Derived.Deep.QuietTactic
import Derived.BigQuiet
import Derived.Deep.RegionHeld3
import Derived.WalkMore
import Derived.Laws.RangeString
import Derived.Laws.RangeAny
import Derived.Laws.Runes
namespace Go.Proofs.YtfolanohokflkaaGreatDoor
open Go.RowKit
structure Up (b:Nat) (w w':World):Prop where
 os:w'.os=w.os
 tape:w'.tape=w.tape
 output:w'.output=w.output
 size:w.heap.size<=w'.heap.size
 block:∀ k,k<w.heap.size->k≠b->w'.heap[k]? = w.heap[k]?
theorem Up.refl (b:Nat) (w:World):Up b w w:=⟨rfl,rfl,rfl,Nat.le_refl _,fun _ _ _=>rfl⟩
theorem Up.trans {b:Nat} {a c e:World} (h:Up b a c) (k:Up b c e):Up b a e:=
 ⟨k.os.trans h.os,k.tape.trans h.tape,k.output.trans h.output,Nat.le_trans h.size k.size,fun j hj hb=>(k.block j (Nat.lt_of_lt_of_le hj h.size) hb).trans (h.block j hj hb)⟩
theorem Up.below {b:Nat} {w w':World} (h:Below w.heap.size w w'):Up b w w':=⟨h.os,h.tape,h.output,h.size,fun k hk _=>h.block k hk⟩
theorem Up.set (b k:Nat) (w:World) (u:Value):Up b w (w.setCell ⟨b,k,none⟩ u):=
 ⟨rfl,rfl,rfl,by simp [World.setCell],fun j _ hb=>Below.heap_setCell w ⟨b,k,none⟩ u j hb⟩
structure PS (w0 w:World) (b:Nat) (s:ByteArray) (p:Nat) (d:Int):Prop where
 c0:w.cell? ⟨b,0,none⟩=some (.string s)
 c1:w.cell? ⟨b,1,none⟩=some (.int .i64 p)
 c2:w.cell? ⟨b,2,none⟩=some (.int .i64 d)
 fz:∀ k,w.frozen? ⟨b,k,none⟩=false
 tabs:Lib.Utf8Tabs 4 5 w
 b2:6<=b
 up:Up b w0 w
 le:p<=s.size
 small:s.size<=60
theorem iE {w w':World} (h:Lib.Utf8Tabs 4 5 w) (h0:w'.heap[4]? = w.heap[4]?) (h1:w'.heap[5]? = w.heap[5]?):Lib.Utf8Tabs 4 5 w':=
 ⟨fun c hc=>(World.cell?_of_block (a:=⟨4,c,none⟩) h0).trans (h.1 c hc),fun i hi=>⟨(World.cell?_of_block (a:=⟨5,2*i,none⟩) h1).trans (h.2 i hi).1,(World.cell?_of_block (a:=⟨5,2*i+1,none⟩) h1).trans (h.2 i hi).2⟩⟩
theorem lM {w:World} (h:Lib.Utf8Tabs 4 5 w):5<w.heap.size:=World.block_lt_of_cell? w _ (h.2 0 (by decide)).1
section
variable {w0 w:World} {b:Nat} {s:ByteArray} {p:Nat} {d:Int}
theorem PS.lt (h:PS w0 w b s p d):b<w.heap.size:=World.block_lt_of_cell? w _ h.c0
theorem PS.below {w':World} (h:Hid (PS w0 w b s p d)) (hb:Below w.heap.size w w'):Hid (PS w0 w' b s p d):=by
 have g:=aa h
 have hlt:=g.lt
 have h2:=g.b2
 have hc:∀ k v,w.cell? ⟨b,k,none⟩=some v->w'.cell? ⟨b,k,none⟩=some v:=fun k v q=>by rw [hb.cell (p:=⟨b,k,none⟩) hlt];exact q
 exact ⟨hc _ _ g.c0,hc _ _ g.c1,hc _ _ g.c2,fun k=>by rw [hb.frozen (p:=⟨b,k,none⟩) hlt];exact g.fz k,iE g.tabs (hb.block 4 (by omega)) (hb.block 5 (by omega)),g.b2,g.up.trans (Up.below hb),g.le,g.small⟩
theorem ig {w:World} {b k j:Nat} {u v:Value} (h:w.cell? ⟨b,j,none⟩=some v) (hk:k≠j):(w.setCell ⟨b,k,none⟩ u).cell? ⟨b,j,none⟩=some v:=by
 have e:(w.setCell ⟨b,k,none⟩ u).cell? ⟨b,j,none⟩=w.cell? ⟨b,j,none⟩:=by
  apply World.cell?_setCell_other
  intro e;apply hk;simp at e
 rw [e];exact h
theorem PS.Im (h:PS w0 w b s p d) (k:Nat) (u:Value):Lib.Utf8Tabs 4 5 (w.setCell ⟨b,k,none⟩ u):=by
 have:=h.b2
 exact iE h.tabs (Below.heap_setCell w ⟨b,k,none⟩ u 4 (by show 4≠b;omega)) (Below.heap_setCell w ⟨b,k,none⟩ u 5 (by show 5≠b;omega))
theorem PS.AR (h:Hid (PS w0 w b s p d)) (p':Nat) (z:Int) (hz:z=p') (hp:p'<=s.size):Hid (PS w0 (w.setCell ⟨b,1,none⟩ (.int .i64 z)) b s p' d):=by
 subst hz
 have g:=aa h
 exact ⟨ig g.c0 (by decide),by rw [World.cell?_setCell_same _ _ _ g.c1],ig g.c2 (by decide),fun k=>by rw [World.frozen?_setCell];exact g.fz k,g.Im _ _,g.b2,g.up.trans (Up.set _ _ _ _),hp,g.small⟩
theorem PS.jr (h:Hid (PS w0 w b s p d)) (d':Int):Hid (PS w0 (w.setCell ⟨b,2,none⟩ (.int .i64 d')) b s p d'):=by
 have g:=aa h
 exact ⟨ig g.c0 (by decide),ig g.c1 (by decide),by rw [World.cell?_setCell_same _ _ _ g.c2],fun k=>by rw [World.frozen?_setCell];exact g.fz k,g.Im _ _,g.b2,g.up.trans (Up.set _ _ _ _),g.le,g.small⟩
theorem FR (h:p<s.size):hd (ai s p)=(Utf8.decode s p).1:=by rw [ib s p h];rfl
theorem Ou (h:p<s.size):(ai s p).tail=ai s (p+(Utf8.decode s p).2):=by rw [ib s p h];rfl
theorem oW (h:p<=s.size):AL s.size (ai s p)=p:=by
 by_cases hp:p<s.size
 ·rw [ib s p hp];rfl
 ·obtain rfl:p=s.size:=by omega
  rw [fB s _ (Nat.le_refl _)];rfl
theorem xH:hd (ai s s.size)=-1:=by rw [fB s _ (Nat.le_refl _)];rfl
set_option maxRecDepth 100000 in
set_option maxHeartbeats 4000000 in
theorem Ov (h:Hid (PS w0 w b s p d)) :
  Calls Tryz.prog 251 #[.pointer (some ⟨b,0,none⟩)] w fun x w'=>x=.returned (.int .i32 (hd (ai s p)))/\Hid (PS w0 w' b s p d):=by
 have q0:=(aa h).c0
 have q1:=(aa h).c1
 have hsm:=(aa h).small
 have hle:=(aa h).le
 have hbl:=(aa h).lt
 by_cases hp:p=s.size
 ·subst hp
  rw [xH]
  go_enter Tryz.func251,Tryz.ntmps251
  go_wp2_with fail
  go_quiet (fail)
  go_wp2_with fail
  go_ret
  exact ⟨rfl,PS.below h ⟨rfl,rfl,rfl,Nat.le_refl _,fun _ _=>rfl⟩⟩
 ·have hlt:p<s.size:=by omega
  have hne:((p:Int)==(s.size:Int))=false:=by simp;omega
  have hpI:(p:Int)<=(s.size:Int):=by omega
  rw [FR hlt]
  have HC:Hid (∀ w1,Lib.Utf8Tabs 4 5 w1->Calls Tryz.prog 281 #[.string (s.extract p s.size)] w1 fun e w'=>e=.returned (.tuple #[.int .i32 (Utf8.decode s p).1,.int .i64 (Utf8.decode s p).2])/\Below w1.heap.size w1 w'):=by
   intro w1 ht
   have:=Tryz.utf8_DecodeRuneInString (s.extract p s.size) w1 ht
   rw [yQ s p hlt] at this
   exact this
  have HT:=hide (aa h).tabs
  clear hp
  go_enter Tryz.func251,Tryz.ntmps251
  go_wp2_with fail
  go_quiet (fail)
  go_wp2_with fail
  go_region_held3 (fun w'=>w'.cell? ⟨b,0,none⟩=some (.string s)/\w'.cell? ⟨b,1,none⟩=some (.int .i64 p))
   (first | go_keep | (refine ⟨?_,?_⟩<;>(rw [hbw.cell (p:=_) (by exact hbl)];assumption)))
   ((go_at_call 281;refine (aa HC _ (by exact aa HT)).mono ?_;rintro e w1 ⟨rfl,hbw⟩))
  go_wp2_with fail
  go_ret
  exact ⟨rfl,PS.below h ⟨hbw.os,hbw.tape,hbw.output,hbw.size,hbw.block⟩⟩
theorem QU (hle:p<=s.size):∃ k:Nat,Lib.decodeGo (s.extract p s.size)=((Lib.decodeGo (s.extract p s.size)).1,k)/\p+k<=s.size/\ai s (p+k)=(ai s p).tail:=by
 by_cases h:p<s.size
 ·rw [yQ s p h]
  exact ⟨_,rfl,(eG s p h).2,(Ou h).symm⟩
 ·obtain rfl:p=s.size:=by omega
  rw [FQ]
  exact ⟨0,rfl,by omega,by rw [fB s _ (Nat.le_refl _),Nat.add_zero,fB s _ (Nat.le_refl _)];rfl⟩
set_option maxRecDepth 100000 in
set_option maxHeartbeats 4000000 in
theorem TZ (h:Hid (PS w0 w b s p d)) :
  Calls Tryz.prog 252 #[.pointer (some ⟨b,0,none⟩)] w fun x w'=>x=.returned (.tuple #[])/\∃ p',Hid (PS w0 w' b s p' d)/\Hid (ai s p'=(ai s p).tail):=by
 have q0:=(aa h).c0
 have q1:=(aa h).c1
 have hsm:=(aa h).small
 have hle:=(aa h).le
 have hbl:=(aa h).lt
 obtain ⟨k,hk,hpk,hsy⟩:=QU hle
 have hpI:(p:Int)<=(s.size:Int):=by omega
 have HC:Hid (∀ w1,Lib.Utf8Tabs 4 5 w1->Calls Tryz.prog 281 #[.string (s.extract p s.size)] w1 fun e w'=>e=.returned (.tuple #[.int .i32 (Lib.decodeGo (s.extract p s.size)).1,.int .i64 k])/\Below w1.heap.size w1 w'):=by
  intro w1 ht
  have:=Tryz.utf8_DecodeRuneInString (s.extract p s.size) w1 ht
  rw [hk] at this
  exact this
 have HT:=hide (aa h).tabs
 have HSY:=hide hsy
 clear hk hsy
 go_enter Tryz.func252,Tryz.ntmps252
 go_wp2_with fail
 go_region_held3 (fun w'=>w'.cell? ⟨b,0,none⟩=some (.string s)/\w'.cell? ⟨b,1,none⟩=some (.int .i64 p))
  (first | go_keep | (refine ⟨?_,?_⟩<;>(rw [hbw.cell (p:=_) (by exact hbl)];assumption)))
  ((go_at_call 281;refine (aa HC _ (by exact aa HT)).mono ?_;rintro e w1 ⟨rfl,hbw⟩))
 have eO:Hid (PS w0 w1 b s p d):=PS.below h ⟨hbw.os,hbw.tape,hbw.output,hbw.size,hbw.block⟩
 have r1:=(aa eO).c1
 have f1:=(aa eO).fz 1
 clear hbw
 go_wp2_with fail
 go_end0
 exact ⟨rfl,p+k,PS.AR eO (p+k) _ (by omega) hpk,HSY⟩
theorem Io (h:Hid (PS w0 w b s p d)) (c:Int) (hc:Hid (hd (ai s p)=c)) :
  Calls Tryz.prog 219 #[.pointer (some ⟨b,0,none⟩),.int .i32 c] w fun x w'=>x=.returned (.bool true)/\∃ p',Hid (PS w0 w' b s p' d)/\Hid (ai s p'=(ai s p).tail):=by
 have HL:=hide (Ov h)
 rw [aa hc] at HL
 clear h hc
 go_enter Tryz.func219,Tryz.ntmps219
 go_wp2_with (first
  | (go_at_call 251;refine (aa HL).mono ?_;clear HL;rintro x w1 ⟨rfl,HS⟩)
  | (go_at_call 252;refine (TZ HS).mono ?_;clear HS;rintro x w2 ⟨rfl,p',HS,HY⟩))
 go_ret
 exact ⟨rfl,p',HS,HY⟩
theorem Ow (h:Hid (PS w0 w b s p d)) (c:Int) (hc:Hid (¬ hd (ai s p)=c)) :
  Calls Tryz.prog 219 #[.pointer (some ⟨b,0,none⟩),.int .i32 c] w fun x w'=>x=.returned (.bool false)/\Hid (PS w0 w' b s p d):=by
 have HL:=hide (Ov h)
 have hne:(hd (ai s p) != c)=true:=by simpa using aa hc
 generalize hd (ai s p)=z at HL hne
 clear h hc
 go_enter Tryz.func219,Tryz.ntmps219
 go_wp2_with (go_at_call 251;refine (aa HL).mono ?_;clear HL;rintro x w1 ⟨rfl,HS⟩)
 go_ret
 exact ⟨rfl,HS⟩
abbrev vF (e p:Int):Ending:=.panicked [{ v:=.iface 74 (.agg #[.int .i64 e,.int .i64 p]),recovered:=false }]
theorem sW (h:Hid (PS w0 w b s p d)) (e:Int) :
  Calls Tryz.prog 220 #[.pointer (some ⟨b,0,none⟩),.int .i64 e] w fun x w'=>x=vF e p/\Hid (Up b w0 w'):=by
 have q1:=(aa h).c1
 have HU:=hide (aa h).up
 clear h
 go_enter Tryz.func220,Tryz.ntmps220
 go_wp2_with fail
 exact ⟨rfl,rfl,HU⟩
theorem QV (h:Hid (PS w0 w b s p d)) (c:Int) (hc:Hid (hd (ai s p)=c)) :
  Calls Tryz.prog 148 #[.pointer (some ⟨b,0,none⟩),.int .i32 c] w fun x w'=>x=.returned (.tuple #[])/\∃ p',Hid (PS w0 w' b s p' d)/\Hid (ai s p'=(ai s p).tail):=by
 go_enter Tryz.func148,Tryz.ntmps148
 go_wp2_with (go_at_call 219;refine (Io h c hc).mono ?_;rintro x w1 ⟨rfl,p',HS,HY⟩)
 go_end0
 exact ⟨rfl,p',HS,HY⟩
theorem T9 (h:Hid (PS w0 w b s p d)) (c:Int) (hc:Hid (¬ hd (ai s p)=c)) :
  Calls Tryz.prog 148 #[.pointer (some ⟨b,0,none⟩),.int .i32 c] w fun x w'=>x=vF 2 p/\Hid (Up b w0 w'):=by
 go_enter Tryz.func148,Tryz.ntmps148
 go_wp2_with (first
  | (go_at_call 219;refine (Ow h c hc).mono ?_;rintro x w1 ⟨rfl,HS⟩)
  | (go_at_call 220;refine (sW HS 2).mono ?_;rintro x w2 ⟨rfl,HU⟩))
 exact ⟨rfl,rfl,HU⟩
end
def gy (M:List Nat):List (Value×Value):=M.map fun (n:Nat)=>(Value.int .i64 (n:Int),Value.agg #[])
theorem DL (M:List Nat) (n:Nat):gy (M++[n])=gy M++[(.int .i64 n,.agg #[])]:=by simp [gy]
set_option maxRecDepth 100000 in
theorem rq:Maps.Keyed Tryz.prog 3:=Maps.int_keyed Tryz.underlying3
theorem uH {n:Nat} (h:n<=fU):∃ x,keyOf Tryz.prog 3 (.int .i64 n)=some x:=⟨_,Maps.keyOf_int_mk Tryz.underlying3 (lT h)⟩
theorem Ip {M:List Nat} (h:∀ n∈M,n<=fU):∀ p∈gy M,∃ x,keyOf Tryz.prog 3 p.1=some x:=fun p hp=>by
 obtain ⟨n,hn,rfl⟩:=List.mem_map.1 hp
 exact uH (h n hn)
theorem QW {M:List Nat} (h:M.Nodup):((gy M).map (·.1)).Nodup:=by
 rw [show (gy M).map (·.1)=M.map fun (n:Nat)=>Value.int .i64 (n:Int) from by simp [gy]]
 refine List.Pairwise.map _ (fun a b hab e=>hab ?_) h
 injection e with _ e
 omega
def kr (M:List Nat) (n:Nat):List Nat:=if n∈M then M else M++[n]
theorem T_ {P:Program} {t k e:TypeId} {w:World} {b:Nat} {l:List (Value×Value)} (ht:P.underlying t=some (.map k e)) (hb:w.heap[b]? = some (mkMap l)) (ty:TypeId):(Builtin.len_ #[t] ty #[.map (some b)]).run P w=.ok (.int .i64 l.length) w:=by
 have hb':w.heap[b]? = some (.map (dM l).toArray l.length):=hb
 have hl:(dM l).length=l.length:=by simp [dM]
 simp [Builtin.len_,run_underlying ht,MapKept.run_getObj_map hb',Result.andThen,hl,goInt]
theorem az {w:World} {o:Obj} {cs:Array Value} {ty:TypeId} (e:o=.cells cs ty) (j:Nat) {v:Value} (hv:cs[j]? = some v):(w.alloc o).cell? ⟨w.heap.size,j,none⟩=some v:=by
 subst e
 have h:=heap_alloc_new w (.cells cs ty)
 unfold World.cell?
 rw [h]
 exact hv
structure Met (w:World) (mb:Nat) (M:List Nat):Prop where
 at_:w.heap[mb]? = some (mkMap (gy M))
 le:∀ n∈M,n<=fU
 nd:M.Nodup
theorem Met.put {w:World} {mb:Nat} {M:List Nat} (h:Met w mb M) {n:Nat} (hn:n<=fU):∃ w',(Instr.mapUpdate 103 (.map (some mb)) (.int .i64 n) (.agg #[])).run Tryz.prog w=.ok () w'/\Met w' mb (kr M n)/\w'.heap.size=w.heap.size/\w'.os=w.os/\w'.tape=w.tape/\w'.output=w.output/\∀ k,k≠mb->w'.heap[k]? = w.heap[k]? := by
 unfold kr
 by_cases hm:n∈M
 ·rw [if_pos hm]
  obtain ⟨j,hj⟩:=List.mem_iff_getElem?.1 hm
  refine ⟨w,Yf rq Tryz.underlying103 h.at_ (Ip h.le) (uH hn) (QW h.nd) (j:=j) (v:=.agg #[]) (by simp [gy,hj]),h,rfl,rfl,rfl,rfl,fun _ _=>rfl⟩
 ·rw [if_neg hm]
  have hlt:mb<w.heap.size:=(Array.getElem?_eq_some_iff.1 h.at_).1
  refine ⟨_,vL rq Tryz.underlying103 h.at_ (Ip h.le) (uH hn) (fun p hp e=>?_) _,⟨?_,?_,?_⟩,vO,rfl,rfl,rfl,fun k hk=>bO hk⟩
  ·obtain ⟨m,hm',rfl⟩:=List.mem_map.1 hp
   injection e with _ e
   have hmn:m=n:=by omega
   exact hm (by rw [<-hmn];exact hm')
  ·rw [<-DL]
   exact vN hlt
  ·intro m hm'
   rcases List.mem_append.1 hm' with h1 | h1
   ·exact h.le m h1
   ·rw [List.mem_singleton] at h1;omega
  ·exact List.nodup_append.2 ⟨h.nd,by simp,fun a ha c hc e=>hm (by rw [List.mem_singleton] at hc;rw [<-hc,<-e];exact ha)⟩
theorem Met.move {w w':World} {mb:Nat} {M:List Nat} (h:Met w mb M) (e:w'.heap[mb]? = w.heap[mb]?):Met w' mb M:=⟨e.trans h.at_,h.le,h.nd⟩
set_option maxRecDepth 100000 in
set_option maxHeartbeats 4000000 in
theorem AU {w:World} {mb:Nat} {M:List Nat} {n:Nat} {B:Int} (h:Hid (Met w mb M)) (hn:n<=fU) :
  Calls Tryz.prog 100 #[.agg #[.int .i64 B,.map (some mb)],.int .i64 n] w fun e w'=>(if B<(kr M n).length then e=vF 7 0 else e=.returned (.bool (decide (n∉M))))/\Hid (Met w' mb (kr M n))/\w.heap.size<=w'.heap.size/\w'.os=w.os/\w'.tape=w.tape/\w'.output=w.output/\∀ k,k<w.heap.size->k≠mb->w'.heap[k]? = w.heap[k]? := by
 have hlt:mb<w.heap.size:=(Array.getElem?_eq_some_iff.1 (aa h).at_).1
 have H1:Met (w.alloc (.cells #[.int .i64 B,.map (some mb)] 105)) mb M:=(aa h).move (Below.heap_alloc w _ mb hlt)
 obtain ⟨w2,hp,H2,s2,o2,t2,u2,b2⟩:=H1.put hn
 have g1:=T_ Tryz.underlying103 H1.at_ 3
 have g2:=T_ Tryz.underlying103 H2.at_ 3
 rw [show (gy M).length=M.length from by simp [gy]] at g1
 rw [show (gy (kr M n)).length=(kr M n).length from by simp [gy]] at g2
 have c0:w2.cell? ⟨w.heap.size,0,none⟩=some (.int .i64 B):=by
  rw [World.cell?_of_block (a:=⟨w.heap.size,0,none⟩) (b2 w.heap.size (by omega))]
  exact az rfl 0 rfl
 have c1:w2.cell? ⟨w.heap.size,1,none⟩=some (.map (some mb)):=by
  rw [World.cell?_of_block (a:=⟨w.heap.size,1,none⟩) (b2 w.heap.size (by omega))]
  exact az rfl 1 rfl
 have HE:Hid (Met w2 mb (kr M n)/\w.heap.size<=w2.heap.size/\w2.os=w.os/\w2.tape=w.tape/\w2.output=w.output/\∀ k,k<w.heap.size->k≠mb->w2.heap[k]? = w.heap[k]?):=by
  refine ⟨H2,by rw [s2];simp,o2,t2,u2,fun k hk hkm=>(b2 k hkm).trans (Below.heap_alloc w _ k hk)⟩
 clear H1 H2 s2 o2 t2 u2 b2 h
 go_enter Tryz.func100,Tryz.ntmps100
 go_wp2_with fail
 ·exact ⟨rfl,rfl,aa HE⟩
 ·go_ret
  refine ⟨?_,aa HE⟩
  show Ending.returned (.bool (decide (M.length<(kr M n).length)))=_
  unfold kr
  by_cases hm:n∈M
  ·simp [hm]
  ·simp [hm]
def uI (T:List Te):Prop:=∀ i x,T[i]? = some x->AJ (T.take i) x.1
theorem AJ.mono {T T':List Te} {k:Ky} (h:AJ T k) (hl:T.length<=T'.length):AJ T' k:=by
 rcases h with e | e | ⟨e,⟨i,hi,e1⟩,j,hj,e2⟩ | ⟨e,i,hi,e1⟩
 ·exact .inl e
 ·exact .inr (.inl e)
 ·exact .inr (.inr (.inl ⟨e,⟨i,by omega,e1⟩,j,by omega,e2⟩))
 ·exact .inr (.inr (.inr ⟨e,i,by omega,e1⟩))
theorem uI.keep {T:List Te} (h:uI T) {k:Ky} (hk:AJ T k):uI (dP T k).1:=by
 rcases dV T k with ⟨i,b,_,e⟩ | ⟨_,e⟩
 ·rw [e];exact h
 ·rw [e]
  intro i x hx
  by_cases hi:i<T.length
  ·rw [List.getElem?_append_left hi] at hx
   rw [List.take_append_of_le_length (by omega)]
   exact h i x hx
  ·have hi':i=T.length:=by
    have:=(List.getElem?_eq_some_iff.1 hx).1
    simp at this
    omega
   subst hi'
   simp at hx
   subst hx
   exact hk.mono (by simp)
theorem uI.two {T:List Te} (h:uI T) {i:Nat} {x:Te} (hx:T[i]? = some x) (hk:x.1.kd=2\/x.1.kd=4\/x.1.kd=5):∃ a b:Nat,a<i/\b<i/\x.1.fi=(a:Int)/\x.1.se=(b:Int):=by
 have hlt:=(List.getElem?_eq_some_iff.1 hx).1
 rcases h i x hx with e | e | ⟨e,⟨a,ha,e1⟩,b,hb,e2⟩ | ⟨e,a,ha,e1⟩
 ·omega
 ·omega
 ·simp only [List.length_take] at ha hb
  exact ⟨a,b,by omega,by omega,e1,e2⟩
 ·omega
theorem uI.one {T:List Te} (h:uI T) {i:Nat} {x:Te} (hx:T[i]? = some x) (hk:x.1.kd=3\/x.1.kd=6):∃ a:Nat,a<i/\x.1.fi=(a:Int):=by
 have hlt:=(List.getElem?_eq_some_iff.1 hx).1
 rcases h i x hx with e | e | ⟨e,⟨a,ha,e1⟩,b,hb,e2⟩ | ⟨e,a,ha,e1⟩
 ·omega
 ·omega
 ·simp only [List.length_take] at ha hb
  exact ⟨a,by omega,e1⟩
 ·simp only [List.length_take] at ha
  exact ⟨a,by omega,e1⟩
def bJ (i j:Nat):Ky:=⟨2,⟨#[]⟩,i,j⟩
theorem QX {i j:Nat} (h:i<=fU) (h':j<=fU):zw (bJ i j):=⟨aec,uD,lT h,lT h'⟩
theorem xI {T:List Te} {i j:Nat} (h:i<T.length) (h':j<T.length):AJ T (bJ i j):=.inr (.inr (.inl ⟨.inl rfl,⟨i,h,rfl⟩,j,h',rfl⟩))
def dB:Nat->List Te->Nat->Nat->List Te×Nat
 | 0,T,_,_=>(T,0)
 | f+1,T,i,j=>
  if i=0\/j=0 then (T,0) else if i=1 then (T,j) else if j=1 then (T,i) else match T[i]? with
   | some x=>if x.1.kd=2 then dB f (dB f T x.1.se.toNat j).1 x.1.fi.toNat (dB f T x.1.se.toNat j).2 else dP T (bJ i j)
   | none=>(T,0)
structure Ext (T:List Te) (R:List Te×Nat):Prop where
 sub:∃ X,R.1=T++X
 lt:R.2<R.1.length
 wf:uI R.1
theorem Ext.len {T:List Te} {R:List Te×Nat} (h:Ext T R):T.length<=R.1.length:=by
 obtain ⟨X,e⟩:=h.sub
 rw [e,List.length_append]
 omega
theorem Ext.refl {T:List Te} {i:Nat} (h:uI T) (hi:i<T.length):Ext T (T,i):=⟨⟨[],by simp⟩,hi,h⟩
theorem Ext.trans {T:List Te} {R R':List Te×Nat} (h:Ext T R) (h':Ext R.1 R'):Ext T R':=by
 obtain ⟨X,e⟩:=h.sub
 obtain ⟨Y,e'⟩:=h'.sub
 exact ⟨⟨X++Y,by rw [e',e,List.append_assoc]⟩,h'.lt,h'.wf⟩
theorem Ext.keep {T:List Te} (h:uI T) {k:Ky} (hk:AJ T k):Ext T (dP T k):=⟨oU T k,TT T k,h.keep hk⟩
theorem sZ:∀ (f:Nat) (T:List Te) (i j:Nat),i<f->uI T->0<T.length->i<T.length->j<T.length->Ext T (dB f T i j)
 | 0,_,_,_,h,_,_,_,_=>by omega
 | f+1,T,i,j,hf,hw,h0,hi,hj=>by
  unfold dB
  split
  ·exact Ext.refl hw h0
  ·split
   ·exact Ext.refl hw hj
   ·split
    ·exact Ext.refl hw hi
    ·obtain ⟨x,hx⟩:∃ x,T[i]? = some x:=⟨_,List.getElem?_eq_getElem hi⟩
     rw [hx]
     dsimp only
     split
     ·rename_i h2
      obtain ⟨a,b,ha,hb,e1,e2⟩:=hw.two hx (.inl h2)
      rw [e1,e2]
      simp only [Int.toNat_natCast]
      have E1:=sZ f T b j (by omega) hw h0 (by omega) hj
      have hl:=E1.len
      exact E1.trans (sZ f _ a _ (by omega) E1.wf (by omega) (by omega) E1.lt)
     ·exact Ext.keep hw (xI hi hj)
section
variable {w:World} {t:TB} {T:List Te} {N S C:List (Value×Value)}
theorem a_.own {t':TB} {w':World} (h:Hid (a_ t t' w w')) {k:Nat} (hk:k<w.heap.size) (hf:¬ TF t k) {o:Obj} (ho:w.heap[k]? = some o):w'.heap[k]? = some o:=((aa h).block k hk hf).trans ho
theorem aX.dS (h:Hid (aX w t T N S C)) {k:Nat} (hk:w.heap.size<=k):¬ TF t k:=fun e=>by have:=(aa h).foot e;omega
set_option maxRecDepth 100000 in
set_option maxHeartbeats 4000000 in
theorem Ej:∀ (f:Nat) (w:World) (t:TB) (T:List Te) (i j:Nat),i<f->Hid (aX w t T (ak T) S C)->uI T->0<T.length->i<T.length->j<T.length->(dB f T i j).1.length<=fU ->
  Calls Tryz.prog 116 #[.pointer (some ⟨t.tb,0,none⟩),.int .i64 i,.int .i64 j] w (FO (dB f T i j) w t S C):=by
 intro f
 induction f with
 | zero=>intro w t T i j hf;omega
 | succ f ih=>
  intro w t T i j hf h hw h0 hi hj hl
  have hiI:(i:Int)<(T.length:Int):=by omega
  have hi0:(0:Int)<=(i:Int):=by omega
  by_cases c1:i=0\/j=0
  ·have e:dB (f+1) T i j=(T,0):=by unfold dB;rw [if_pos c1]
   rw [e]
   have HT:=h
   clear hl h e ih hw
   by_cases ci:i=0
   ·subst ci
    go_enter Tryz.func116,Tryz.ntmps116
    go_wp2_with fail
    go_ret
    exact ⟨rfl,t,HT,a_.refl _ _⟩
   ·obtain rfl:j=0:=by omega
    have n0:((i:Int)==0)=false:=by simp;omega
    clear c1 ci
    go_enter Tryz.func116,Tryz.ntmps116
    go_wp2_with fail
    go_ret
    exact ⟨rfl,t,HT,a_.refl _ _⟩
  ·have n0:((i:Int)==0)=false:=by simp;omega
   have m0:((j:Int)==0)=false:=by simp;omega
   by_cases c2:i=1
   ·have e:dB (f+1) T i j=(T,j):=by unfold dB;rw [if_neg c1,if_pos c2]
    rw [e]
    subst c2
    have HT:=h
    clear hl h e ih hw c1
    go_enter Tryz.func116,Tryz.ntmps116
    go_wp2_with fail
    go_ret
    exact ⟨rfl,t,HT,a_.refl _ _⟩
   ·have n1:((i:Int)==1)=false:=by simp;omega
    by_cases c3:j=1
    ·have e:dB (f+1) T i j=(T,i):=by unfold dB;rw [if_neg c1,if_neg c2,if_pos c3]
     rw [e]
     subst c3
     have HT:=h
     clear hl h e ih hw c1 c2
     go_enter Tryz.func116,Tryz.ntmps116
     go_wp2_with fail
     go_ret
     exact ⟨rfl,t,HT,a_.refl _ _⟩
    ·have m1:((j:Int)==1)=false:=by simp;omega
     obtain ⟨x,hx⟩:∃ x,T[i]? = some x:=⟨_,List.getElem?_eq_getElem hi⟩
     have e:dB (f+1) T i j=if x.1.kd=2 then dB f (dB f T x.1.se.toNat j).1 x.1.fi.toNat (dB f T x.1.se.toNat j).2 else dP T (bJ i j):=by
      conv=>lhs;unfold dB
      rw [if_neg c1,if_neg c2,if_neg c3,hx]
     rw [e] at hl ⊢
     obtain ⟨g,q2,a0,a1,a2,a3,-⟩:=(aa h).at hx
     have HA:=aX.alloc h (.cells #[.int .i64 x.1.kd,.string x.1.st,.int .i64 x.1.fi,.int .i64 x.1.se] 135)
     have uh:Hid (a_ t t w (w.alloc (.cells #[.int .i64 x.1.kd,.string x.1.st,.int .i64 x.1.fi,.int .i64 x.1.se] 135))):=a_.below ((Below.refl _ _).alloc (Nat.le_refl _) _)
     by_cases c4:x.1.kd=2
     ·rw [if_pos c4] at hl ⊢
      obtain ⟨a,b,ha,hb,e1,e2⟩:=hw.two hx (.inl c4)
      rw [e1,e2] at hl ⊢
      simp only [Int.toNat_natCast] at hl ⊢
      have E1:=sZ f T b j (by omega) hw h0 (by omega) hj
      have hlen1:=E1.len
      have E2:=sZ f _ a _ (by omega) E1.wf (by omega) (by omega) E1.lt
      have acP:=E2.len
      rw [c4,e1,e2] at HA uh
      rw [c4] at a0
      rw [e1] at a2
      rw [e2] at a3
      have H1:=hide (fun m=>ih _ t T b j (by omega) (hide ((aa HA).drew m)) hw h0 (by omega) hj (by omega))
      have H2:=hide (fun w1 t1 h1=>ih w1 t1 (dB f T b j).1 a (dB f T b j).2 (by omega) h1 E1.wf (by omega) (by omega) E1.lt hl)
      have DC:=hide (heap_alloc_new w (.cells #[.int .i64 2,.string x.1.st,.int .i64 a,.int .i64 b] 135))
      have hnot:¬ TF t w.heap.size:=aX.dS h (Nat.le_refl _)
      have hlt:w.heap.size<(w.alloc (.cells #[.int .i64 2,.string x.1.st,.int .i64 a,.int .i64 b] 135)).heap.size:=by simp
      generalize x.1.st=xs at *
      generalize dB f (dB f T b j).1 a (dB f T b j).2=R2 at *
      generalize dB f T b j=R1 at *
      clear hl e ih hw E1 E2 e1 e2 hlen1 acP hx c4 HA
      go_enter Tryz.func116,Tryz.ntmps116
      go_wp2_with fail
      generalize w.alloc (.cells #[.int .i64 2,.string xs,.int .i64 a,.int .i64 b] 135)=Wk at *
      obtain ⟨k0,k1,k2,k3⟩:=bI (aa DC)
      generalize hkb:w.heap.size=kb at *
      go_region_held3 (fun w'=>w'.cell? ⟨kb,2,none⟩=some (.int .i64 a)/\w'.cell? ⟨kb,3,none⟩=some (.int .i64 b)) (go_keep)
       (first
        | (go_at_call 116;refine (aa H1 1).mono ?_;clear H1;rintro x w1 ⟨rfl,t1,HT1,ru⟩;obtain ⟨r0,r1,r2,r3⟩:=bI (a_.own ru hlt hnot (aa DC));have H2':=hide (aa H2 w1 t1 HT1);rw [(aa ru).tb] at H2')
        | (go_at_call 116;refine (aa H2').mono ?_;clear H2';rintro x w2 ⟨rfl,t2,HT2,uJ⟩;obtain ⟨s0,s1,s2,s3⟩:=bI (a_.own uJ (Nat.lt_of_lt_of_le hlt (aa ru).size) (fun hf=>((aa ru).foot hf).elim hnot (fun hle=>absurd hlt (by have:Wk.heap.size<=kb:=hle;omega))) (a_.own ru hlt hnot (aa DC)))))
      go_wp2_with fail
      go_ret
      have hf1:=aa ru
      have hf:a_ t t1 w w1:=(aa uh).trans ⟨hf1.os,hf1.tape,hf1.output,hf1.size,hf1.block,hf1.tb,hf1.nb,hf1.sb,hf1.cb,hf1.row⟩
      exact ⟨rfl,t2,HT2,hf.trans (aa uJ)⟩
     ·rw [if_neg c4] at hl ⊢
      have n2:(x.1.kd==2)=false:=by simpa using c4
      have hlen:T.length<=fU:=by
       obtain ⟨X,hX⟩:=oU T (bJ i j)
       rw [hX,List.length_append] at hl
       omega
      have HK:=hide (lQ HA (QX (by omega) (by omega)) (xI hi hj) hl)
      unfold iD bJ at HK
      dsimp only at HK
      clear hl h e ih hw HA hx
      generalize x.1.kd=xk at *
      generalize x.1.st=xs at *
      generalize x.1.fi=xf at *
      generalize x.1.se=xe at *
      go_enter Tryz.func116,Tryz.ntmps116
      go_wp2_with (go_at_call 84;refine (aa HK).mono ?_;clear HK;rintro x w1 ⟨rfl,t1,H1,H2⟩)
      go_ret
      exact ⟨rfl,t1,H1,(aa uh).trans (aa H2)⟩
end
theorem zP (n:Int) (w:World) :
  Calls Tryz.prog 249 #[.int .i64 n] w fun e w'=>e=.returned (.int .i64 (dA n))/\w=w':=by
 go_enter Tryz.func249,Tryz.ntmps249
 go_wp2_with fail
 go_ret
 refine ⟨Yg ?_,rfl⟩
 unfold dA
 split<;>omega
set_option maxRecDepth 100000 in
theorem DN (s:ByteArray) (w:World) :
  Calls Tryz.prog 322 #[.string s,.int .i32 (-1)] w fun e w'=>e=.returned (.int .i64 (-1))/\w=w':=by
 have HV:=hide (Tryz.utf8_ValidRune (-1) w)
 rw [show Lib.validRune (-1)=false from by decide] at HV
 go_enter Tryz.func322,Tryz.ntmps322
 go_wp2_with (go_at_call 332;refine (aa HV).mono ?_;clear HV;rintro e w1 ⟨rfl,hw⟩;subst hw)
 go_ret
 exact ⟨rfl,rfl⟩
def Asc (s:ByteArray):Prop:=∀ (i:Nat) (h:i<s.size),(s[i]'h).toNat<128
theorem Mh (w:World) (s:ByteArray) (pos:Nat):Below w.heap.size w (w.iter s pos):=(Below.refl _ w).alloc (Nat.le_refl _) _
set_option maxRecDepth 1000000 in
set_option maxHeartbeats 2000000 in
theorem DR (s:ByteArray) (w:World) (ha:Asc s) :
  Calls Tryz.prog 322 #[.string s,.int .i32 65533] w fun e w'=>e=.returned (.int .i64 (-1))/\Below w.heap.size w w':=by
 have HA:=hide ha
 clear ha
 go_enter Tryz.func322,Tryz.ntmps322
 go_wp2_with fail
 go_loopw [4] (fun v w'=>v=.int .i64 0/\∃ pos:Nat,w'=w.iter s pos) (fun _ w'=>s.size - w'.iterPos w.heap.size)
 case atStart=>exact ⟨rfl,0,rfl⟩
 case round=>
  obtain ⟨rfl,pos,rfl⟩:=hrel
  by_cases hp:pos<s.size
  ·have hb:=aa HA pos hp
   have hnx:∀ ty,(Instr.next (.pointer (some ⟨w.heap.size,0,none⟩)) true ty).run Tryz.prog (w.iter s pos)=_:=fun ty=>run_next_ascii w s pos ty hp hb
   have hne:((s[pos].toNat:Int)==65533)=false:=by simp;omega
   clear HA hb
   go_wp2_with fail
   go_roundw
   case rel=>exact ⟨rfl,pos+1,rfl⟩
   case measure=>simp;omega
  ·have hnx:∀ ty,(Instr.next (.pointer (some ⟨w.heap.size,0,none⟩)) true ty).run Tryz.prog (w.iter s pos)=_:=fun ty=>run_next_end w s pos ty hp
   go_wp2_with fail
   go_ret
   exact ⟨rfl,Mh _ _ _⟩
theorem indexByte_none:∀ (l:List UInt8) (c:UInt8),(∀ b∈l,b≠c)->Lib.indexByte l c=-1
 | [],_,_=>rfl
 | b::l,c,h=>by
  have h1:=h b (by simp)
  rw [Lib.indexByte,if_neg (by simpa using h1),indexByte_none l c (fun x hx=>h x (by simp [hx]))];rfl
theorem FT {s:ByteArray} (ha:Asc s):∀ b∈s.data.toList,b.toNat<128:=by
 intro b hb
 obtain ⟨i,hi,rfl⟩:=List.getElem_of_mem hb
 exact ha i (by simpa using hi)
set_option maxRecDepth 1000000 in
set_option maxHeartbeats 4000000 in
theorem zy (s:ByteArray) (r:Int) (b0 b1:UInt8) (w:World) (ha:Asc s) (h4:4<=s.size) (Tq:s.size<=60) (hr:128<=r) (hr2:¬ r=65533) (hv:Lib.validRune r=true) (hE:Utf8.encode r=⟨#[b0,b1]⟩) (hEm:128<=b1.toNat) :
  Calls Tryz.prog 322 #[.string s,.int .i32 r] w fun e w'=>e=.returned (.int .i64 (-1))/\Below w.heap.size w w':=by
 have HV:=hide (fun w1=>Tryz.utf8_ValidRune r w1)
 rw [hv] at HV
 have hmS:1<s.size:=by omega
 have hEs:1<(⟨#[b0,b1]⟩:ByteArray).size:=by show 1<2;decide
 have hsm:=ha 1 hmS
 have hbne:((s[1].toNat:Int) != (((⟨#[b0,b1]⟩:ByteArray)[1]'hEs).toNat:Int))=true:=by show ((s[1].toNat:Int) != (b1.toNat:Int))=true;simp;omega
 have hr2':(r==65533)=false:=by simpa using hr2
 have hmI:(2:Int)<=(s.size:Int):=by omega
 have hwm:IntKind.i64.wrap 2=2:=by decide
 have hmJ:(1:Int)<(s.size:Int):=by omega
 have HIX:Hid (∀ (h:1<(⟨#[b0,b1]⟩:ByteArray).size) w1,Calls Tryz.prog 331 #[.string (s.extract 2 s.size),.int .u8 ((⟨#[b0,b1]⟩:ByteArray)[1]'h).toNat] w1 fun e w'=>e=.returned (.int .i64 (-1))/\w'=w1):=by
  intro h w1
  show Calls Tryz.prog 331 #[.string (s.extract 2 s.size),.int .u8 b1.toNat] w1 _
  have:=Tryz.strings_IndexByte (s.extract 2 s.size) (b1.toNat:Int) w1
  rw [indexByte_none _ _ (fun b hb hbc=>by
   have h1:=FT ha b (mem_extract hb)
   rw [hbc] at h1
   simp at h1
   omega)] at this
  exact this
 clear ha hsm hEm hr2 hv h4
 go_enter Tryz.func322,Tryz.ntmps322
 go_wp2_with (go_at_call 332;refine (aa HV _).mono ?_;clear HV;rintro e w1 ⟨rfl,hw⟩;subst hw)
 go_wp2_with fail
 go_step3
 go_wp2_with fail
 refine wp_loop_rounds 1 ?_
 rw [rounds_succ]
 go_wp2_with fail
 go_step3
 go_wp2_with fail
 go_quiet (fail)
 go_wp2_with fail
 go_quiet ((go_at_call 331;exact (aa HIX (by assumption) _).mono (fun e w' h=>⟨h.1,_,h.2⟩)))
 go_wp2_with fail
 simp only [Exit.noGoto_ret,Exit.inBlock,Exit.then]
 go_ret
 exact ⟨rfl,⟨rfl,rfl,rfl,Nat.le_refl _,fun _ _=>rfl⟩⟩
set_option maxRecDepth 1000000 in
set_option maxHeartbeats 4000000 in
theorem zz (s:ByteArray) (r:Int) (b0 b1 b2:UInt8) (w:World) (ha:Asc s) (h4:4<=s.size) (Tq:s.size<=60) (hr:128<=r) (hr2:¬ r=65533) (hv:Lib.validRune r=true) (hE:Utf8.encode r=⟨#[b0,b1,b2]⟩) (hEm:128<=b2.toNat) :
  Calls Tryz.prog 322 #[.string s,.int .i32 r] w fun e w'=>e=.returned (.int .i64 (-1))/\Below w.heap.size w w':=by
 have HV:=hide (fun w1=>Tryz.utf8_ValidRune r w1)
 rw [hv] at HV
 have hmS:2<s.size:=by omega
 have hEs:2<(⟨#[b0,b1,b2]⟩:ByteArray).size:=by show 2<3;decide
 have hsm:=ha 2 hmS
 have hbne:((s[2].toNat:Int) != (((⟨#[b0,b1,b2]⟩:ByteArray)[2]'hEs).toNat:Int))=true:=by show ((s[2].toNat:Int) != (b2.toNat:Int))=true;simp;omega
 have hr2':(r==65533)=false:=by simpa using hr2
 have hmI:(3:Int)<=(s.size:Int):=by omega
 have hwm:IntKind.i64.wrap 3=3:=by decide
 have hmJ:(2:Int)<(s.size:Int):=by omega
 have HIX:Hid (∀ (h:2<(⟨#[b0,b1,b2]⟩:ByteArray).size) w1,Calls Tryz.prog 331 #[.string (s.extract 3 s.size),.int .u8 ((⟨#[b0,b1,b2]⟩:ByteArray)[2]'h).toNat] w1 fun e w'=>e=.returned (.int .i64 (-1))/\w'=w1):=by
  intro h w1
  show Calls Tryz.prog 331 #[.string (s.extract 3 s.size),.int .u8 b2.toNat] w1 _
  have:=Tryz.strings_IndexByte (s.extract 3 s.size) (b2.toNat:Int) w1
  rw [indexByte_none _ _ (fun b hb hbc=>by
   have h1:=FT ha b (mem_extract hb)
   rw [hbc] at h1
   simp at h1
   omega)] at this
  exact this
 clear ha hsm hEm hr2 hv h4
 go_enter Tryz.func322,Tryz.ntmps322
 go_wp2_with (go_at_call 332;refine (aa HV _).mono ?_;clear HV;rintro e w1 ⟨rfl,hw⟩;subst hw)
 go_wp2_with fail
 go_step3
 go_wp2_with fail
 refine wp_loop_rounds 1 ?_
 rw [rounds_succ]
 go_wp2_with fail
 go_step3
 go_wp2_with fail
 go_quiet (fail)
 go_wp2_with fail
 go_quiet ((go_at_call 331;exact (aa HIX (by assumption) _).mono (fun e w' h=>⟨h.1,_,h.2⟩)))
 go_wp2_with fail
 simp only [Exit.noGoto_ret,Exit.inBlock,Exit.then]
 go_ret
 exact ⟨rfl,⟨rfl,rfl,rfl,Nat.le_refl _,fun _ _=>rfl⟩⟩
set_option maxRecDepth 1000000 in
set_option maxHeartbeats 4000000 in
theorem zA (s:ByteArray) (r:Int) (b0 b1 b2 b3:UInt8) (w:World) (ha:Asc s) (h4:4<=s.size) (Tq:s.size<=60) (hr:128<=r) (hr2:¬ r=65533) (hv:Lib.validRune r=true) (hE:Utf8.encode r=⟨#[b0,b1,b2,b3]⟩) (hEm:128<=b3.toNat) :
  Calls Tryz.prog 322 #[.string s,.int .i32 r] w fun e w'=>e=.returned (.int .i64 (-1))/\Below w.heap.size w w':=by
 have HV:=hide (fun w1=>Tryz.utf8_ValidRune r w1)
 rw [hv] at HV
 have hmS:3<s.size:=by omega
 have hEs:3<(⟨#[b0,b1,b2,b3]⟩:ByteArray).size:=by show 3<4;decide
 have hsm:=ha 3 hmS
 have hbne:((s[3].toNat:Int) != (((⟨#[b0,b1,b2,b3]⟩:ByteArray)[3]'hEs).toNat:Int))=true:=by show ((s[3].toNat:Int) != (b3.toNat:Int))=true;simp;omega
 have hr2':(r==65533)=false:=by simpa using hr2
 have hmI:(4:Int)<=(s.size:Int):=by omega
 have hwm:IntKind.i64.wrap 4=4:=by decide
 have hmJ:(3:Int)<(s.size:Int):=by omega
 have HIX:Hid (∀ (h:3<(⟨#[b0,b1,b2,b3]⟩:ByteArray).size) w1,Calls Tryz.prog 331 #[.string (s.extract 4 s.size),.int .u8 ((⟨#[b0,b1,b2,b3]⟩:ByteArray)[3]'h).toNat] w1 fun e w'=>e=.returned (.int .i64 (-1))/\w'=w1):=by
  intro h w1
  show Calls Tryz.prog 331 #[.string (s.extract 4 s.size),.int .u8 b3.toNat] w1 _
  have:=Tryz.strings_IndexByte (s.extract 4 s.size) (b3.toNat:Int) w1
  rw [indexByte_none _ _ (fun b hb hbc=>by
   have h1:=FT ha b (mem_extract hb)
   rw [hbc] at h1
   simp at h1
   omega)] at this
  exact this
 clear ha hsm hEm hr2 hv h4
 go_enter Tryz.func322,Tryz.ntmps322
 go_wp2_with (go_at_call 332;refine (aa HV _).mono ?_;clear HV;rintro e w1 ⟨rfl,hw⟩;subst hw)
 go_wp2_with fail
 go_step3
 go_wp2_with fail
 refine wp_loop_rounds 1 ?_
 rw [rounds_succ]
 go_wp2_with fail
 go_step3
 go_wp2_with fail
 go_quiet (fail)
 go_wp2_with fail
 go_quiet ((go_at_call 331;exact (aa HIX (by assumption) _).mono (fun e w' h=>⟨h.1,_,h.2⟩)))
 go_wp2_with fail
 simp only [Exit.noGoto_ret,Exit.inBlock,Exit.then]
 go_ret
 exact ⟨rfl,⟨rfl,rfl,rfl,Nat.le_refl _,fun _ _=>rfl⟩⟩
def Ox (c:Int):Prop:=c=-1\/(0<=c/\Lib.validRune c=true)
def ui (s:ByteArray) (c:Int):Int:=if 0<=c/\c<128 then Lib.indexByte s.data.toList c.toNat.toUInt8 else -1
theorem AV (n:Nat):128<=(UInt8.ofNat (128+n % 64)).toNat:=by simp;omega
theorem AX (s:ByteArray) (r:Int) (w:World) (ha:Asc s) (h4:4<=s.size) (Tq:s.size<=60) (hr:128<=r) (hr2:¬ r=65533) (hv:Lib.validRune r=true) :
  Calls Tryz.prog 322 #[.string s,.int .i32 r] w fun e w'=>e=.returned (.int .i64 (-1))/\Below w.heap.size w w':=by
 have hvv:Utf8.valid r=true:=by rw [validRune_eq];exact hv
 have hE:=rfl (a:=Utf8.encode r)
 conv at hE=>rhs;unfold Utf8.encode
 simp only [hvv,if_true] at hE
 rw [if_neg (by omega)] at hE
 by_cases h1:r.toNat<2048
 ·rw [if_pos h1] at hE
  exact zy s r _ _ w ha h4 Tq hr hr2 hv hE (AV _)
 ·rw [if_neg h1] at hE
  by_cases h2:r.toNat<65536
  ·rw [if_pos h2] at hE
   exact zz s r _ _ _ w ha h4 Tq hr hr2 hv hE (AV _)
  ·rw [if_neg h2] at hE
   exact zA s r _ _ _ _ w ha h4 Tq hr hr2 hv hE (AV _)
theorem uq (s:ByteArray) (c:Int) (w:World) (ha:Asc s) (h4:4<=s.size) (Tq:s.size<=60) (hc:Ox c) :
  Calls Tryz.prog 322 #[.string s,.int .i32 c] w fun e w'=>e=.returned (.int .i64 (ui s c))/\Below w.heap.size w w':=by
 rcases hc with rfl | ⟨h0,hv⟩
 ·refine (DN s w).mono ?_
  rintro e w' ⟨rfl,rfl⟩
  exact ⟨rfl,Below.refl _ _⟩
 ·by_cases h1:c<128
  ·refine (Tryz.strings_IndexRune_ascii s c w h0 h1).mono ?_
   rintro e w' ⟨rfl,rfl⟩
   exact ⟨by rw [ui,if_pos ⟨h0,h1⟩],Below.refl _ _⟩
  ·rw [ui,if_neg (by omega)]
   by_cases h2:c=65533
   ·subst h2;exact DR s w ha
   ·exact AX s c w ha h4 Tq (by omega) h2 hv
set_option maxRecDepth 100000 in
theorem kY (s:ByteArray) (c:Int) (w:World) (ha:Asc s) (h4:4<=s.size) (Tq:s.size<=60) (hc:Ox c) :
  Calls Tryz.prog 305 #[.string s,.int .i32 c] w fun e w'=>e=.returned (.bool (decide (0<=ui s c)))/\Below w.heap.size w w':=by
 have HI:=hide (uq s c w ha h4 Tq hc)
 generalize ui s c=z at HI
 clear hc ha
 go_enter Tryz.func305,Tryz.ntmps305
 go_wp2_with (go_at_call 322;refine (aa HI).mono ?_;clear HI;rintro e w1 ⟨rfl,hb⟩;have HB:=hide hb;clear hb)
 go_ret
 exact ⟨rfl,aa HB⟩
theorem FU (s:ByteArray) (i:Nat):Lib.validRune (Utf8.decode s i).1=true:=by
 have g0:=(s.get! i).toNat_lt
 have g1:=(s.get! (i+1)).toNat_lt
 unfold Utf8.decode Lib.validRune
 simp only [Utf8.valid,Utf8.runeError,Nat.add_zero,Bool.and_eq_true,Bool.or_eq_true,beq_iff_eq,decide_eq_true_eq,ge_iff_le]
 repeat' split
 all_goals simp only []
 all_goals omega
theorem Iq (s:ByteArray) (p:Nat) (h:p<=s.size):Ox (hd (ai s p)):=by
 by_cases hp:p<s.size
 ·rw [FR hp]
  exact .inr ⟨by omega,FU s p⟩
 ·obtain rfl:p=s.size:=by omega
  rw [xH];exact .inl rfl
def aeg {a:Type} (R:bn a) (val:a->Value) (w0:World) (b:Nat) (s:ByteArray) (d:Int) (x:Ending) (w':World):Prop:=
 match R with
 | .ok y=>x=.returned (val y.1)/\∃ p',Hid (PS w0 w' b s p' d)/\Hid (ai s p'=y.2)
 | .error y=>x=vF y.1 y.2/\Hid (Up b w0 w')
abbrev acQ (z:Int):Value:=.int .i64 z
abbrev Oy (z:Int):Value:=.int .i32 z
def xJ:ByteArray:=⟨#[48,49,50,51,52,53,54,55,56,57]⟩
def FV:ByteArray:=⟨#[48,49,50,51,52,53,54,55,56,57,97,98,99,100,101,102]⟩
def Mi:ByteArray:=⟨#[42,43,63,123]⟩
def FW:ByteArray:=⟨#[124,38,126,42,43,63,123,125,91,93,40,41,46,92]⟩
def Mj:ByteArray:=⟨#[124,38,126,42,43,63,123,125,91,93,40,41,46,92,94,45,110]⟩
theorem uK (s:ByteArray) (h:s.data.toList.all (fun b=>decide (b.toNat<128))=true):Asc s:=by
 intro i hi
 have:=List.all_eq_true.1 h (s[i]) (by exact Array.getElem_mem_toList (xs:=s.data) hi)
 simpa using this
theorem AY (P:Int->Bool) (h:∀ n:Fin 128,P ((n.val:Nat):Int)=true) (c:Int) (h0:0<=c) (h1:c<128):P c=true:=by
 have:=h ⟨c.toNat,by omega⟩
 simpa [Int.toNat_of_nonneg h0] using this
theorem Oz (c:Int):ui xJ c=if iH c=true then c - 48 else -1:=by
 unfold ui
 by_cases h:0<=c/\c<128
 ·rw [if_pos h]
  have:=AY (fun c=>decide (Lib.indexByte xJ.data.toList c.toNat.toUInt8=if iH c=true then c - 48 else -1)) (by decide +kernel) c h.1 h.2
  simpa using this
 ·rw [if_neg h,if_neg (by simp [iH];omega)]
theorem OA (c:Int):ui FV c=uF c:=by
 unfold ui
 by_cases h:0<=c/\c<128
 ·rw [if_pos h]
  have:=AY (fun c=>decide (Lib.indexByte FV.data.toList c.toNat.toUInt8=uF c)) (by decide +kernel) c h.1 h.2
  simpa using this
 ·rw [if_neg h,uF,if_neg (by omega),if_neg (by omega)]
theorem Yp (c:Int):decide (0<=ui Mi c)=mE c:=by
 unfold ui
 by_cases h:0<=c/\c<128
 ·rw [if_pos h]
  have:=AY (fun c=>decide (decide (0<=Lib.indexByte Mi.data.toList c.toNat.toUInt8)=mE c)) (by decide +kernel) c h.1 h.2
  simpa using this
 ·rw [if_neg h,mE];simp;omega
theorem Ua (c:Int):decide (0<=ui FW c)=mZ c:=by
 unfold ui
 by_cases h:0<=c/\c<128
 ·rw [if_pos h]
  have:=AY (fun c=>decide (decide (0<=Lib.indexByte FW.data.toList c.toNat.toUInt8)=mZ c)) (by decide +kernel) c h.1 h.2
  simpa using this
 ·rw [if_neg h];simp [mZ];omega
theorem Yq (c:Int):decide (0<=ui Mj c)=(q9 c||decide (c=110)):=by
 unfold ui
 by_cases h:0<=c/\c<128
 ·rw [if_pos h]
  have:=AY (fun c=>decide (decide (0<=Lib.indexByte Mj.data.toList c.toNat.toUInt8)=(q9 c||decide (c=110)))) (by decide +kernel) c h.1 h.2
  simpa using this
 ·rw [if_neg h];simp [q9,mZ];omega
section
variable {w0 w:World} {b:Nat} {s:ByteArray} {p:Nat} {d:Int}
theorem FX (h:Hid (PS w0 w b s p d)) (t:ByteArray) (ha:Asc t) (h4:4<=t.size) (Tq:t.size<=60) (z:Int) (hz:Hid (ui t (hd (ai s p))=z)) :
  Calls Tryz.prog 341 #[.pointer (some ⟨b,0,none⟩),.string t] w fun x w'=>(z<0->x=.returned (.tuple #[.int .i64 0,.bool false])/\Hid (PS w0 w' b s p d))/\(0<=z->x=.returned (.tuple #[.int .i64 z,.bool true])/\∃ p',Hid (PS w0 w' b s p' d)/\Hid (ai s p'=(ai s p).tail)):=by
 have HL:=hide (Ov h)
 have HX:=hide (fun w1=>uq t (hd (ai s p)) w1 ha h4 Tq (Iq s p (aa h).le))
 rw [aa hz] at HX
 generalize hd (ai s p)=c at HL HX
 clear h ha hz
 by_cases hneg:z<0
 ·go_enter Tryz.func341,Tryz.ntmps341
  go_wp2_with (first
   | (go_at_call 251;refine (aa HL).mono ?_;clear HL;rintro x w1 ⟨rfl,HS⟩)
   | (go_at_call 322;refine (aa HX _).mono ?_;clear HX;rintro x w2 ⟨rfl,hb⟩;have HS2:=PS.below HS hb;clear hb))
  go_ret2
  exact ⟨fun _=>⟨rfl,HS2⟩,fun h=>absurd h (by omega)⟩
 ·go_enter Tryz.func341,Tryz.ntmps341
  go_wp2_with (first
   | (go_at_call 251;refine (aa HL).mono ?_;clear HL;rintro x w1 ⟨rfl,HS⟩)
   | (go_at_call 322;refine (aa HX _).mono ?_;clear HX;rintro x w2 ⟨rfl,hb⟩;have HS2:=PS.below HS hb;clear hb)
   | (go_at_call 252;refine (TZ HS2).mono ?_;clear HS2;rintro x w3 ⟨rfl,p',mg,HY⟩))
  go_ret2
  exact ⟨fun h=>absurd h (by omega),fun _=>⟨rfl,p',mg,HY⟩⟩
theorem FY (h:Hid (PS w0 w b s p d)) (hc:Hid (iH (hd (ai s p))=false)) :
  Calls Tryz.prog 341 #[.pointer (some ⟨b,0,none⟩),.string xJ] w fun x w'=>x=.returned (.tuple #[.int .i64 0,.bool false])/\Hid (PS w0 w' b s p d):=by
 refine (FX h xJ (uK _ (by decide)) (by decide) (by decide) (-1) (by show _=_;rw [Oz,if_neg (by rw [aa hc];decide)])).mono ?_
 intro x w' hh;exact hh.1 (by decide)
theorem lW (h:Hid (PS w0 w b s p d)) {c:Int} (hcc:Hid (hd (ai s p)=c)) (hc:Hid (iH c=true)) :
  Calls Tryz.prog 341 #[.pointer (some ⟨b,0,none⟩),.string xJ] w fun x w'=>x=.returned (.tuple #[.int .i64 (c - 48),.bool true])/\∃ p',Hid (PS w0 w' b s p' d)/\Hid (ai s p'=(ai s p).tail):=by
 refine (FX h xJ (uK _ (by decide)) (by decide) (by decide) (c - 48) (by show _=_;rw [aa hcc,Oz,if_pos (aa hc)])).mono ?_
 intro x w' hh
 exact hh.2 (by have:=aa hc;simp [iH] at this;omega)
set_option maxRecDepth 100000 in
set_option maxHeartbeats 4000000 in
theorem Yr (h:Hid (PS w0 w b s p d)) (least:Int) :
  Calls Tryz.prog 335 #[.pointer (some ⟨b,0,none⟩),.int .i64 least] w (aeg (bQ s.size least (ai s p)) acQ w0 b s d):=by
 have hle:=(aa h).le
 obtain ⟨R,hR⟩:∃ R,bQ s.size least (ai s p)=R:=⟨_,rfl⟩
 rw [hR]
 have HR:=hide hR
 clear hR
 cases hc:iH (hd (ai s p))
 ·have HX:Hid (R=.error (2,(p:Int))):=by show _=_;rw [<-aa HR,bQ,hc,if_neg (by decide),bad,oW hle]
  have HC:=hide hc
  clear hc HR
  go_enter Tryz.func335,Tryz.ntmps335
  go_wp2_with (first
   | (go_at_call 341;refine (FY h HC).mono ?_;rintro x w1 ⟨rfl,HS⟩)
   | (go_at_call 220;refine (sW HS 2).mono ?_;rintro x w2 ⟨rfl,HU⟩))
  rw [aa HX]
  exact ⟨rfl,rfl,HU⟩
 ·obtain ⟨c,hcc⟩:∃ c,hd (ai s p)=c:=⟨_,rfl⟩
  have gK:=hide hcc
  rw [hcc] at hc
  have hcr:48<=c/\c<=57:=by simpa [iH] using hc
  have HC:=hide hc
  have HN:Hid (R=if (kT (ai s p)).1<least\/12<(kT (ai s p)).1 then bad 3 s.size (kT (ai s p)).2 else .ok (kT (ai s p))):=by show _=_;rw [<-aa HR,bQ,hcc,if_pos hc]
  obtain ⟨aeS,aeT⟩:=hcr
  clear hc HR
  by_cases hz:c=48
  ·subst hz
   have hv:kT (ai s p)=(0,(ai s p).tail):=by rw [kT,hcc,if_neg (by omega)];rfl
   rw [hv] at HN
   have HV:=HN
   clear HN hv hcc
   by_cases hbad:(0:Int)<least\/12<(0:Int)
   ·have HX:=hide ((aa HV).trans (if_pos hbad))
    have hle1:Hid (∀ q d',PS w0 w b s q d'->q<=s.size):=fun _ _ g=>g.le
    rcases hbad with hb | hb
    all_goals
     go_enter Tryz.func335,Tryz.ntmps335
     go_wp2_with (first
     | (go_at_call 341;refine (lW h gK HC).mono ?_;clear h;rintro x w1 ⟨rfl,p1,HS,xK⟩)
     | (go_at_call 220;refine (sW HS 3).mono ?_;rintro x w3 ⟨rfl,HU⟩))
     all_goals (rw [aa HX,bad,<-aa xK,oW (aa HS).le];exact ⟨rfl,rfl,HU⟩)
   ·have HX:=hide ((aa HV).trans (if_neg hbad))
    have hb1:¬ (0:Int)<least:=by omega
    have hb2:¬ 12<(0:Int):=by omega
    clear hbad
    go_enter Tryz.func335,Tryz.ntmps335
    go_wp2_with (first
     | (go_at_call 341;refine (lW h gK HC).mono ?_;clear h;rintro x w1 ⟨rfl,p1,HS,xK⟩))
    go_ret
    rw [aa HX]
    exact ⟨rfl,p1,HS,xK⟩
  ·obtain ⟨c2,Ub⟩:∃ c2,hd (ai s p).tail=c2:=⟨_,rfl⟩
   have Yt:=hide Ub
   cases hc2:iH c2
   ·have hv:kT (ai s p)=(c - 48,(ai s p).tail):=by rw [kT,hcc,Ub,if_neg (by rw [hc2];simp)]
    rw [hv] at HN
    have HV:=HN
    have xD:=hide hc2
    clear HN hv hcc Ub hc2
    by_cases hbad:c - 48<least\/12<c - 48
    ·have HX:=hide ((aa HV).trans (if_pos hbad))
     have hle1:Hid (∀ q d',PS w0 w b s q d'->q<=s.size):=fun _ _ g=>g.le
     rcases hbad with hb | hb
     all_goals
      go_enter Tryz.func335,Tryz.ntmps335
      go_wp2_with (first
      | (go_at_call 341;refine (lW h gK HC).mono ?_;clear h;rintro x w1 ⟨rfl,p1,HS,xK⟩)
      | (go_at_call 341;refine (FY HS (by show iH (hd (ai s p1))=false;rw [aa xK,aa Yt];exact aa xD)).mono ?_;clear HS;rintro x w2 ⟨rfl,HS⟩)
      | (go_at_call 220;refine (sW HS 3).mono ?_;rintro x w3 ⟨rfl,HU⟩))
      all_goals (rw [aa HX,bad,<-aa xK,oW (aa HS).le];exact ⟨rfl,rfl,HU⟩)
    ·have HX:=hide ((aa HV).trans (if_neg hbad))
     have hb1:¬ c - 48<least:=by omega
     have hb2:¬ 12<c - 48:=by omega
     clear hbad
     go_enter Tryz.func335,Tryz.ntmps335
     go_wp2_with (first
      | (go_at_call 341;refine (lW h gK HC).mono ?_;clear h;rintro x w1 ⟨rfl,p1,HS,xK⟩)
      | (go_at_call 341;refine (FY HS (by show iH (hd (ai s p1))=false;rw [aa xK,aa Yt];exact aa xD)).mono ?_;clear HS;rintro x w2 ⟨rfl,HS⟩))
     go_ret
     rw [aa HX]
     exact ⟨rfl,p1,HS,xK⟩
   ·have hv:kT (ai s p)=(10*(c - 48)+(c2 - 48),(ai s p).tail.tail):=by rw [kT,hcc,Ub,if_pos ⟨by omega,hc2⟩]
    rw [hv] at HN
    have HV:=HN
    have xD:=hide hc2
    have aeh:48<=c2/\c2<=57:=by simpa [iH] using hc2
    obtain ⟨aeU,aeV⟩:=aeh
    clear HN hv hcc Ub hc2
    by_cases hbad:10*(c - 48)+(c2 - 48)<least\/12<10*(c - 48)+(c2 - 48)
    ·have HX:=hide ((aa HV).trans (if_pos hbad))
     have hle1:Hid (∀ q d',PS w0 w b s q d'->q<=s.size):=fun _ _ g=>g.le
     rcases hbad with hb | hb
     all_goals
      go_enter Tryz.func335,Tryz.ntmps335
      go_wp2_with (first
      | (go_at_call 341;refine (lW h gK HC).mono ?_;clear h;rintro x w1 ⟨rfl,p1,HS,xK⟩)
      | (go_at_call 341;refine (lW HS (by show hd (ai s p1)=c2;rw [aa xK];exact aa Yt) xD).mono ?_;clear HS;rintro x w2 ⟨rfl,p2,HS,HY2'⟩;have xL:Hid (ai s p2=(ai s p).tail.tail):=(by show _=_;rw [aa HY2',aa xK]))
      | (go_at_call 220;refine (sW HS 3).mono ?_;rintro x w3 ⟨rfl,HU⟩))
      all_goals (rw [aa HX,bad,<-aa xL,oW (aa HS).le];exact ⟨rfl,rfl,HU⟩)
    ·have HX:=hide ((aa HV).trans (if_neg hbad))
     have hb1:¬ 10*(c - 48)+(c2 - 48)<least:=by omega
     have hb2:¬ 12<10*(c - 48)+(c2 - 48):=by omega
     clear hbad
     go_enter Tryz.func335,Tryz.ntmps335
     go_wp2_with (first
      | (go_at_call 341;refine (lW h gK HC).mono ?_;clear h;rintro x w1 ⟨rfl,p1,HS,xK⟩)
      | (go_at_call 341;refine (lW HS (by show hd (ai s p1)=c2;rw [aa xK];exact aa Yt) xD).mono ?_;clear HS;rintro x w2 ⟨rfl,p2,HS,HY2'⟩;have xL:Hid (ai s p2=(ai s p).tail.tail):=(by show _=_;rw [aa HY2',aa xK])))
     go_ret
     rw [aa HX]
     exact ⟨rfl,p2,HS,xL⟩
end
end Go.Proofs.YtfolanohokflkaaGreatDoor
