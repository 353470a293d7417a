import Derived.Shelf.Strings.Builder1
import Derived.Shelf.Strings.Builder2
import Derived.Shelf.Strings.OnBuilder
import Derived.Shelf.Small.Utf8
import Derived.Shelf.Small.Bits
import Derived.Shelf.Small.Strs
import Derived.Shelf.Small.Wraps
import Derived.Shelf.Strconv.Itoa0
import Derived.Shelf.Strconv.Itoa1
import Derived.Shelf.LaysM
import Derived.Shelf.Strconv.Itoa2
import Derived.Shelf.Strconv.Itoa3
import Derived.Shelf.Strings.Search1
import Derived.Shelf.Sort.Plain
import Derived.Shelf.Strings.Prefix
import Derived.Shelf.Unicode.Decode
import Derived.Shelf.Strings.Runes
import Derived.Shelf.Unicode.DecodeSlow
import Derived.Shelf.Unicode.DecodeAny
import Derived.Shelf.Slices.Turned
import Derived.Ground.Names2Prog
import Derived.Shelf.Slices.CompactI
import Derived.Shelf.Slices.SearchI
import Derived.Shelf.Slices.Cells
import Derived.Shelf.Slices.In.SortNone
import Derived.Shelf.Slices.Empties
import Derived.Ground.SlgnProg
import Derived.Shelf.SlicesE.Compact
import Derived.Ground.SlgfProg
import Derived.Shelf.SlicesE.IndexFunc
import Derived.Shelf.SlicesE.DeleteFunc
import Derived.Test.YtfolanohokflkaaGreatDoorProg
import Derived.Test.YtfolanohokflkaaGreatDoorAfE
import Derived.Test.YtfolanohokflkaaGreatDoorSoM
import Derived.Test.YtfolanohokflkaaGreatDoorApA
import Derived.Lib.SlicesCompact
namespace Go.Proofs
open Go.Shelf
def Tryz.zb:Go.Shelf.Ren:=⟨fun | 156=>74 | 165=>104 | 166=>105 | 169=>106 | 240=>151 | 241=>152 | 276=>227 | 277=>228 | n=>n,fun | 31=>111 | 9=>9 | 3=>3 | 4=>4 | 0=>0 | 20=>20 | 72=>164 | 76=>168 | 70=>162 | 37=>90 | 75=>167 | 127=>229 | 164=>283 | 5=>5 | 80=>170 | n=>n,fun | n=>n⟩
theorem Tryz.Pm:Go.Proofs.Lays.n156 Tryz.prog Tryz.zb:={
 mixed:=by kernel_rfl
 f156:=Tryz.func74.trans (congrArg some (by kernel_rfl))
 f165:=Tryz.func104.trans (congrArg some (by kernel_rfl))
 f166:=Tryz.func105.trans (congrArg some (by kernel_rfl))
 f169:=Tryz.func106.trans (congrArg some (by kernel_rfl))
 f240:=Tryz.func151.trans (congrArg some (by kernel_rfl))
 f241:=Tryz.func152.trans (congrArg some (by kernel_rfl))
 f276:=Tryz.func227.trans (congrArg some (by kernel_rfl))
 f277:=Tryz.func228.trans (congrArg some (by kernel_rfl))
 t0:=Tryz.underlying0
 a0:=Tryz.isAgg0
 z0:=Tryz.sizeOf0
 v0:=Tryz.zeroValue0
 t3:=Tryz.underlying3
 a3:=Tryz.isAgg3
 z3:=Tryz.sizeOf3
 v3:=Tryz.zeroValue3
 t4:=Tryz.underlying4
 a4:=Tryz.isAgg4
 z4:=Tryz.sizeOf4
 v4:=Tryz.zeroValue4
 t9:=Tryz.underlying9
 a9:=Tryz.isAgg9
 z9:=Tryz.sizeOf9
 v9:=Tryz.zeroValue9
 t20:=Tryz.underlying20
 a20:=Tryz.isAgg20
 z20:=Tryz.sizeOf20
 v20:=Tryz.zeroValue20
 t31:=Tryz.underlying111
 a31:=Tryz.isAgg111
 z31:=Tryz.sizeOf111
 v31:=Tryz.zeroValue111
 t37:=Tryz.underlying90
 a37:=Tryz.isAgg90
 z37:=Tryz.sizeOf90
 v37:=Tryz.zeroValue90
 t70:=Tryz.underlying162
 a70:=Tryz.isAgg162
 z70:=Tryz.sizeOf162
 v70:=Tryz.zeroValue162
 t72:=Tryz.underlying164
 a72:=Tryz.isAgg164
 z72:=Tryz.sizeOf164
 v72:=Tryz.zeroValue164
 t75:=Tryz.underlying167
 a75:=Tryz.isAgg167
 z75:=Tryz.sizeOf167
 v75:=Tryz.zeroValue167
 t76:=Tryz.underlying168
 a76:=Tryz.isAgg168
 z76:=Tryz.sizeOf168
 v76:=Tryz.zeroValue168
 t127:=Tryz.underlying229
 a127:=Tryz.isAgg229
 z127:=Tryz.sizeOf229
 v127:=Tryz.zeroValue229
 t164:=Tryz.underlying283
 a164:=Tryz.isAgg283
 z164:=Tryz.sizeOf283
 v164:=Tryz.zeroValue283 }
theorem Tryz.oD:Builder.Extra Tryz.prog Tryz.zb:={
 sizeBuilder:=by kernel_rfl
 liesBuilder:=by kernel_rfl
 t5:=Tryz.underlying5
 a5:=Tryz.isAgg5
 z5:=Tryz.sizeOf5
 v5:=Tryz.zeroValue5
 infoByte:=by kernel_rfl
 cellsByte:=by kernel_rfl
 sizeByte:=by kernel_rfl
 neB5:=by decide }
open Go.RowKit in
theorem Tryz.strings_Join_none (a:Option Addr) (c:Nat) (sep:ByteArray) (w:World) :
  Calls Tryz.prog 74 #[.slice a 0 c,.string sep] w fun e w'=>e=.returned (.string ⟨#[]⟩)/\w'=w:=Any.strings_Join_none Tryz.Pm Tryz.oD a c sep w
open Go.RowKit in
theorem Tryz.strings_Join (bk o c:Nat) (xs:List ByteArray) (sep:ByteArray) (w:World) (hcells:∀ (j:Nat) x,xs[j]? = some x->w.cell? ⟨bk,o+j,none⟩=some (.string x)) (hbk:bk<w.heap.size) (hN:xs.length<=140737488355328) (hcap:xs.length<=c) (hlen:(Lib.join (xs.map (·.data.toList)) sep.data.toList).length<=140737488355328) :
  Calls Tryz.prog 74 #[.slice (some ⟨bk,o,none⟩) xs.length c,.string sep] w fun e w'=>e=.returned (.string ⟨(Lib.join (xs.map (·.data.toList)) sep.data.toList).toArray⟩)/\Below w.heap.size w w':=Any.strings_Join Tryz.Pm Tryz.oD bk o c xs sep w hcells hbk hN hcap hlen
def Tryz.J7:Go.Shelf.Ren:=⟨fun | 283=>223 | n=>n,fun | 3=>3 | 9=>9 | 4=>4 | n=>n,fun | n=>n⟩
theorem Tryz.Y_:Go.Proofs.Lays.n283 Tryz.prog Tryz.J7:={
 mixed:=by kernel_rfl
 f283:=Tryz.func223.trans (congrArg some (by kernel_rfl))
 t3:=Tryz.underlying3
 a3:=Tryz.isAgg3
 z3:=Tryz.sizeOf3
 v3:=Tryz.zeroValue3
 t4:=Tryz.underlying4
 a4:=Tryz.isAgg4
 z4:=Tryz.sizeOf4
 v4:=Tryz.zeroValue4
 t9:=Tryz.underlying9
 a9:=Tryz.isAgg9
 z9:=Tryz.sizeOf9
 v9:=Tryz.zeroValue9 }
open Go.Lib in
theorem Tryz.internal_strconv_small (i:Nat) (h:i<100) (w:World) :
  Calls Tryz.prog 223 #[.int .i64 i] w fun e w'=>e=.returned (.string ⟨(Lib.decDigits i).toArray⟩)/\w'=w:=Any.internal_strconv_small Tryz.Y_ i h w
def Tryz.J8:Go.Shelf.Ren:=⟨fun | 189=>154 | 125=>230 | 257=>229 | 128=>267 | 129=>255 | 294=>259 | 295=>260 | 296=>261 | 297=>262 | 298=>263 | 299=>264 | 216=>68 | 300=>265 | 301=>266 | 328=>284 | 329=>285 | 330=>286 | 331=>287 | 332=>288 | 215=>102 | 343=>308 | n=>n,fun | 28=>31 | 3=>3 | 46=>99 | 0=>0 | 51=>304 | 53=>278 | 4=>4 | 183=>308 | 182=>307 | 131=>69 | 5=>5 | 9=>9 | 218=>326 | 222=>330 | 228=>344 | 229=>141 | n=>n,fun | n=>n⟩
theorem Tryz.Za:Go.Proofs.Lays.n189 Tryz.prog Tryz.J8:={
 mixed:=by kernel_rfl
 f125:=Tryz.func230.trans (congrArg some (by kernel_rfl))
 f128:=Tryz.func267.trans (congrArg some (by kernel_rfl))
 f129:=Tryz.func255.trans (congrArg some (by kernel_rfl))
 f189:=Tryz.func154.trans (congrArg some (by kernel_rfl))
 f215:=Tryz.func102.trans (congrArg some (by kernel_rfl))
 f216:=Tryz.func68.trans (congrArg some (by kernel_rfl))
 f257:=Tryz.func229.trans (congrArg some (by kernel_rfl))
 f294:=Tryz.func259.trans (congrArg some (by kernel_rfl))
 f295:=Tryz.func260.trans (congrArg some (by kernel_rfl))
 f296:=Tryz.func261.trans (congrArg some (by kernel_rfl))
 f297:=Tryz.func262.trans (congrArg some (by kernel_rfl))
 f298:=Tryz.func263.trans (congrArg some (by kernel_rfl))
 f299:=Tryz.func264.trans (congrArg some (by kernel_rfl))
 f300:=Tryz.func265.trans (congrArg some (by kernel_rfl))
 f301:=Tryz.func266.trans (congrArg some (by kernel_rfl))
 f328:=Tryz.func284.trans (congrArg some (by kernel_rfl))
 f329:=Tryz.func285.trans (congrArg some (by kernel_rfl))
 f330:=Tryz.func286.trans (congrArg some (by kernel_rfl))
 f331:=Tryz.func287.trans (congrArg some (by kernel_rfl))
 f332:=Tryz.func288.trans (congrArg some (by kernel_rfl))
 f343:=Tryz.func308.trans (congrArg some (by kernel_rfl))
 t0:=Tryz.underlying0
 a0:=Tryz.isAgg0
 z0:=Tryz.sizeOf0
 v0:=Tryz.zeroValue0
 t3:=Tryz.underlying3
 a3:=Tryz.isAgg3
 z3:=Tryz.sizeOf3
 v3:=Tryz.zeroValue3
 t4:=Tryz.underlying4
 a4:=Tryz.isAgg4
 z4:=Tryz.sizeOf4
 v4:=Tryz.zeroValue4
 t5:=Tryz.underlying5
 a5:=Tryz.isAgg5
 z5:=Tryz.sizeOf5
 v5:=Tryz.zeroValue5
 t9:=Tryz.underlying9
 a9:=Tryz.isAgg9
 z9:=Tryz.sizeOf9
 v9:=Tryz.zeroValue9
 t28:=Tryz.underlying31
 a28:=Tryz.isAgg31
 z28:=Tryz.sizeOf31
 v28:=Tryz.zeroValue31
 t46:=Tryz.underlying99
 a46:=Tryz.isAgg99
 z46:=Tryz.sizeOf99
 v46:=Tryz.zeroValue99
 t51:=Tryz.underlying304
 a51:=Tryz.isAgg304
 z51:=Tryz.sizeOf304
 v51:=Tryz.zeroValue304
 t53:=Tryz.underlying278
 a53:=Tryz.isAgg278
 z53:=Tryz.sizeOf278
 v53:=Tryz.zeroValue278
 t131:=Tryz.underlying69
 a131:=Tryz.isAgg69
 z131:=Tryz.sizeOf69
 v131:=Tryz.zeroValue69
 t182:=Tryz.underlying307
 a182:=Tryz.isAgg307
 z182:=Tryz.sizeOf307
 v182:=Tryz.zeroValue307
 t183:=Tryz.underlying308
 a183:=Tryz.isAgg308
 z183:=Tryz.sizeOf308
 v183:=Tryz.zeroValue308
 t218:=Tryz.underlying326
 a218:=Tryz.isAgg326
 z218:=Tryz.sizeOf326
 v218:=Tryz.zeroValue326
 t222:=Tryz.underlying330
 a222:=Tryz.isAgg330
 z222:=Tryz.sizeOf330
 v222:=Tryz.zeroValue330
 t228:=Tryz.underlying344
 a228:=Tryz.isAgg344
 z228:=Tryz.sizeOf344
 v228:=Tryz.zeroValue344
 t229:=Tryz.underlying141
 a229:=Tryz.isAgg141
 z229:=Tryz.sizeOf141
 v229:=Tryz.zeroValue141 }
open Go.Sort Go.RowKit in
theorem Tryz.slices_Sort_int (blk off cap:Nat) (zs:List Int) (w:World) (hH:Holds (Value.int .i64) w blk off zs.toArray) (hblk:blk<w.heap.size) (hsz:zs.length<4611686018427387904) :
  Calls Tryz.prog 154 #[.slice (some ⟨blk,off,none⟩) zs.length cap] w fun e w'=>
   e=.returned (.tuple #[])/\∃ n os,w'=grow (putRow (Value.int .i64) (Sort.ahead w n) blk off (zs.mergeSort fun x y=>decide (x<=y)).toArray) os:=Any.slices_Sort_int Tryz.Za blk off cap zs w hH hblk hsz
end Go.Proofs
namespace Go.Proofs.YtfolanohokflkaaGreatDoor
open Go.RowKit
abbrev Cv:Int->Value:=Value.int .i64
def sD (l:List Int):List Int:=l.mergeSort fun x y=>decide (x<=y)
theorem R4 (d:Array Int) (cur:Array Value) (h:d.size<=cur.size):(Sort.putCells Cv 0 d cur).toList.take d.size=ints d.toList:=by
 apply List.ext_getElem?
 intro k
 by_cases hk:k<d.size
 ·rw [List.getElem?_take_of_lt hk,Array.getElem?_toList]
  unfold Sort.putCells ints
  rw [Array.getElem?_mapIdx,Array.getElem?_eq_getElem (show k<cur.size by omega),List.getElem?_map,Array.getElem?_toList,Array.getElem?_eq_getElem hk]
  simp [hk]
 ·rw [List.getElem?_take_eq_none (by omega)]
  unfold ints
  rw [List.getElem?_eq_none (by simp;omega)]
theorem vk {w:World} {g n cap:Nat} {l:List Int} (hl:l.length=n) (h:w.ownsRow 0 3 1 (.slice (some ⟨g,0,none⟩) n cap) n (ints l)):Sort.Holds Cv w g 0 l.toArray:=by
 intro j hj
 have hj2:j<n:=by simpa [hl] using hj
 obtain ⟨ao,cap',e,hh⟩:=aN h
 injection e with e1 e2 e3
 obtain ⟨g',e4,_,_,hc,hf⟩:=hh (by omega)
 rw [e4] at e1
 injection e1 with e1
 injection e1 with e1
 subst e1
 rw [Nat.zero_add]
 refine ⟨?_,hf j⟩
 rw [hc j (by omega)]
 simp [ints,List.getElem?_eq_getElem (show j<l.length by omega)]
theorem Cw {w:World} {g n cap m:Nat} {l r:List Int} {os:Array Obj} (hr:r.length=n) (h:w.ownsRow 0 3 1 (.slice (some ⟨g,0,none⟩) n cap) n (ints l)) (hg:g<w.heap.size) :
  (Sort.grow (Sort.putRow Cv (Sort.ahead w m) g 0 r.toArray) os).ownsRow 0 3 1 (.slice (some ⟨g,0,none⟩) n cap) n (ints r)/\w.grownBy (Sort.grow (Sort.putRow Cv (Sort.ahead w m) g 0 r.toArray) os) (some g):=by
 obtain ⟨hlen,⟨hv,_⟩ | ⟨g',cap',cur,hv,hb,hgr,hn',hm,hs,ht⟩⟩:=h
 ·cases hv
 ·injection hv with e1 e2 e3
  injection e1 with e1
  injection e1 with e1
  subst e1
  subst e3
  refine ⟨⟨by simpa [ints] using hr,.inr ⟨g,cap,Sort.putCells Cv 0 r.toArray cur,rfl,hb,?_,hn',hm,?_,?_⟩⟩,?_⟩
  ·rw [Sort.heap_grow_old _ _ (by simpa using hg)]
   show (w.heap.modify g _)[g]? = _
   rw [Array.getElem?_modify,if_pos rfl,hgr]
   rfl
  ·simpa [Sort.putCells] using hs
  ·have hcs:r.toArray.size<=cur.size:=by
    simp [hr]
    omega
   have:=R4 r.toArray cur hcs
   simp only [List.size_toArray,hr] at this
   simpa using this
  ·refine ⟨rfl,rfl,rfl,by simp,fun k hk hne=>?_⟩
   rw [Sort.heap_grow_old _ _ (by simpa using hk)]
   show (w.heap.modify g _)[k]? = _
   rw [Array.getElem?_modify,if_neg (fun e=>hne (by rw [e]))]
theorem qz {w:World} {g n cap:Nat} {l:List Int} (h:w.ownsRow 0 3 1 (.slice (some ⟨g,0,none⟩) n cap) n (ints l)):g<w.heap.size:=(h.lt g rfl).2
theorem R5 (w:World) (g n cap:Nat) (l:List Int) (hl:l.length=n) (hN:n<=1000000000000) (h:w.ownsRow 0 3 1 (.slice (some ⟨g,0,none⟩) n cap) n (ints l)) :
  Calls Tryz.prog 154 #[.slice (some ⟨g,0,none⟩) n cap] w fun e w'=>e=.returned (.tuple #[])/\w'.ownsRow 0 3 1 (.slice (some ⟨g,0,none⟩) n cap) n (ints (sD l))/\w.grownBy w' (some g):=by
 have hg:=qz h
 have:=Tryz.slices_Sort_int g 0 cap l w (vk hl h) hg (by omega)
 rw [hl] at this
 refine this.mono ?_
 rintro e w' ⟨rfl,m,os,rfl⟩
 exact ⟨rfl,Cw (by rw [List.length_mergeSort];exact hl) h hg⟩
theorem ahead_grow (w:World):Sort.grow w #[]=w:=by simp [Sort.grow]
theorem GH (w:World) (g n cap:Nat) (l:List Int) (hl:l.length=n) (hN:n<=1000000000000) (h:w.ownsRow 0 3 1 (.slice (some ⟨g,0,none⟩) n cap) n (ints l)) (hle:(Lib.compact l).length<=n) :
  Calls Tryz.prog 155 #[.slice (some ⟨g,0,none⟩) n cap] w fun e w'=>e=.returned (.slice (some ⟨g,0,none⟩) (Lib.compact l).length cap)/\w'.ownsRow 0 3 1 (.slice (some ⟨g,0,none⟩) (Lib.compact l).length cap) (Lib.compact l).length (ints (Lib.compact l))/\w.grownBy w' (some g):=by
 have hg:=qz h
 have hcap:n<=cap:=by
  obtain ⟨_,⟨hv,_⟩ | ⟨g',cap',cur,hv,_,_,hn',_⟩⟩:=h
  ·cases hv
  ·injection hv with _ _ e3
   omega
 have:=Tryz.slices_Compact_int g 0 cap l w (vk hl h) (by omega) (by omega)
 rw [hl] at this
 refine this.mono ?_
 rintro e w' ⟨rfl,m,rfl⟩
 have hr:(Lib.compact l++List.replicate (n - (Lib.compact l).length) 0).length=n:=by simp;omega
 have hp:=Cw (os:=#[]) (m:=m) hr h hg
 rw [ahead_grow] at hp
 refine ⟨rfl,?_,hp.2⟩
 obtain ⟨hlen,⟨hv,_⟩ | ⟨g',cap',cur,hv,hb,hgr,hn',hm,hs,ht⟩⟩:=hp.1
 ·cases hv
 ·injection hv with e1 e2 e3
  injection e1 with e1
  injection e1 with e1
  subst e1
  subst e3
  refine ⟨by simp [ints],.inr ⟨g,cap,cur,rfl,hb,hgr,by omega,hm,hs,?_⟩⟩
  have h2:=congrArg (List.take ((Lib.compact l).length*1)) ht
  rw [List.take_take,Nat.min_eq_left (by omega)] at h2
  rw [h2]
  unfold ints
  rw [List.map_append,List.take_append_of_le_length (by simp),List.take_of_length_le (by simp)]
theorem mP (l:List Int) (hs:l.Pairwise (·<=·)):(Lib.compact l).Pairwise (· < ·)/\(∀ x,x∈Lib.compact l↔x∈l)/\(Lib.compact l).length<=l.length:=by
 have hget:∀ j,j<l.length->l.toArray[j]! = l.getD j 0:=fun j hj=>by simp [hj]
 have hle:∀ i j,i<=j->j<l.length->l.getD i 0<=l.getD j 0:=fun i j hij hj=>by
  rcases Nat.lt_or_ge i j with q | q
  ·have:=List.pairwise_iff_getElem.1 hs i j (by omega) hj q
   simpa [List.getD_eq_getElem?_getD,hj,show i<l.length by omega] using this
  ·have:i=j:=by omega
   subst this;exact Int.le_refl _
 have main:∀ m,m<=l.length->(Lib.compactUpTo l.toArray m).Pairwise (· < ·)/\(∀ x,x∈Lib.compactUpTo l.toArray m↔∃ j,j<m/\l.getD j 0=x)/\(Lib.compactUpTo l.toArray m).length<=m:=by
  intro m
  induction m with
  | zero=>intro _;simp [Lib.compactUpTo]
  | succ m ih=>
   intro hm
   obtain ⟨h1,h2,h3⟩:=ih (by omega)
   rw [Lib.compactUpTo_succ]
   cases hk:Lib.keeps l.toArray m with
   | true=>
    rw [if_pos rfl,hget m (by omega)]
    refine ⟨List.pairwise_append.2 ⟨h1,by simp,fun a ha b hb=>?_⟩,fun x=>?_,by simp;omega⟩
    ·have hb':b=l.getD m 0:=by simpa using hb
     subst hb'
     obtain ⟨j,hj,rfl⟩:=(h2 a).1 ha
     have q1:=hle j (m - 1) (by omega) (by omega)
     have q2:=hle (m - 1) m (by omega) (by omega)
     have hne:l.getD m 0≠l.getD (m - 1) 0:=by
      intro e
      have:=Lib.keeps_neg (d:=l.toArray) (m:=m) (by omega) (by rw [hget m (by omega),hget (m - 1) (by omega)];exact e)
      rw [this] at hk;cases hk
     omega
    ·rw [List.mem_append,h2]
     constructor
     ·rintro (⟨j,hj,e⟩ | e)
      ·exact ⟨j,by omega,e⟩
      ·have:x=l.getD m 0:=by simpa using e
       exact ⟨m,by omega,this.symm⟩
     ·rintro ⟨j,hj,e⟩
      rcases Nat.lt_or_ge j m with q | q
      ·exact .inl ⟨j,q,e⟩
      ·have:j=m:=by omega
       subst this
       exact .inr (by simp [<-e])
   | false=>
    rw [if_neg (by simp),List.append_nil]
    have hm0:0<m:=by
     rcases Nat.lt_or_ge 0 m with q | q
     ·exact q
     ·have:m=0:=by omega
      subst this
      have:=Lib.keeps_lt_one l.toArray 0 (by omega)
      rw [this] at hk;cases hk
    have he:l.getD m 0=l.getD (m - 1) 0:=by
     refine Classical.byContradiction fun hne=>?_
     have:=Lib.keeps_pos (d:=l.toArray) (m:=m) (by rw [hget m (by omega),hget (m - 1) (by omega)];exact hne)
     rw [this] at hk;cases hk
    refine ⟨h1,fun x=>?_,by omega⟩
    rw [h2]
    constructor
    ·rintro ⟨j,hj,e⟩;exact ⟨j,by omega,e⟩
    ·rintro ⟨j,hj,e⟩
     rcases Nat.lt_or_ge j m with q | q
     ·exact ⟨j,q,e⟩
     ·have:j=m:=by omega
      subst this
      exact ⟨j - 1,by omega,by rw [<-he];exact e⟩
 obtain ⟨h1,h2,h3⟩:=main l.length (Nat.le_refl _)
 refine ⟨h1,fun x=>?_,h3⟩
 show x∈Lib.compactUpTo l.toArray l.length↔_
 rw [h2,List.mem_iff_getElem]
 constructor
 ·rintro ⟨j,hj,e⟩;exact ⟨j,hj,by rw [<-e];simp [List.getD_eq_getElem?_getD,hj]⟩
 ·rintro ⟨j,hj,e⟩;exact ⟨j,hj,by rw [<-e];simp [List.getD_eq_getElem?_getD,hj]⟩
theorem Cx (l:List Int):(sD l).Pairwise (·<=·):=by
 have:=List.pairwise_mergeSort (le:=fun x y:Int=>decide (x<=y)) (fun a b c h1 h2=>by simp at *;omega) (fun a b=>by simp;omega) l
 exact this.imp fun h=>by simpa using h
theorem yw {l:List Int} {x:Int}:x∈sD l↔x∈l:=by unfold sD;exact List.mem_mergeSort
theorem yx (l:List Int):(sD l).length=l.length:=by unfold sD;exact List.length_mergeSort l
end Go.Proofs.YtfolanohokflkaaGreatDoor
