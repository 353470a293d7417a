import Derived.WalkKit
import Derived.Test.YtfolanohokflkaaGreatDoorProg
import Derived.KernelRfl
import Derived.Maps.Keyed
import Derived.DeepKeys4
import GoSem.Core.Utf8
import Derived.WalkSpells
import Derived.WalkLawsBesides
import Derived.WalkMore
import Derived.Laws.OwnMore
import Derived.Deep.QuietTactic
import Derived.BigQuiet
namespace Go.Proofs.YtfolanohokflkaaGreatDoor
open Go.RowKit
theorem aN {w:World} {base e size:Nat} {v:Value} {n:Nat} {xs:List Value} (h:w.ownsRow base e size v n xs) :
  ∃ ao cap,v=.slice ao n cap/\(0<n->∃ g,ao=some ⟨g,0,none⟩/\base<=g/\g<w.heap.size/\(∀ j,j<n*size->w.cell? ⟨g,j,none⟩=xs[j]?)/\∀ j,w.frozen? ⟨g,j,none⟩=false):=by
 obtain ⟨hl,⟨rfl,rfl⟩ | ⟨g,cap,cur,rfl,hb,hg,hn,hm,hs,ht⟩⟩:=h
 ·exact ⟨_,_,rfl,fun h=>absurd h (Nat.lt_irrefl 0)⟩
 ·refine ⟨_,_,rfl,fun _=>⟨g,rfl,hb,?_,fun j hj=>?_,fun j=>?_⟩⟩
  ·exact (Array.getElem?_eq_some_iff.1 hg).1
  ·rw [<-ht,List.getElem?_take_of_lt hj]
   simp [World.cell?,hg]
  ·simp [World.frozen?,hg]
theorem dU {w:World} {base base' e size:Nat} {v:Value} {n:Nat} {xs:List Value} (h:w.ownsRow base e size v n xs) (hb:base'<=base):w.ownsRow base' e size v n xs:=by
 obtain ⟨hl,hx | ⟨g,cap,cur,hv,hb',rest⟩⟩:=h
 ·exact ⟨hl,.inl hx⟩
 ·exact ⟨hl,.inr ⟨g,cap,cur,hv,Nat.le_trans hb hb',rest⟩⟩
theorem own_below {w w':World} {B base e size:Nat} {v:Value} {n:Nat} {xs:List Value} (h:w.ownsRow base e size v n xs) (hb:Below B w w') (hB:w.heap.size<=B):w'.ownsRow base e size v n xs:=by
 obtain ⟨hl,hx | ⟨g,cap,cur,hv,hb',hg,rest⟩⟩:=h
 ·exact ⟨hl,.inl hx⟩
 ·have hlt:g<w.heap.size:=(Array.getElem?_eq_some_iff.1 hg).1
  exact ⟨hl,.inr ⟨g,cap,cur,hv,hb',by rw [hb.block g (by omega)];exact hg,rest⟩⟩
theorem Yc {w:World} {base e size:Nat} {v:Value} {n:Nat} {xs:List Value} (h:w.ownsRow base e size v n xs) {g j:Nat} (hg:v.ownBlock=some g) (hj:j<n*size) (u:Value) :
  (w.setCell ⟨g,j,none⟩ u).ownsRow base e size v n (xs.set j u):=by
 obtain ⟨hl,⟨rfl,rfl⟩ | ⟨g',cap,cur,rfl,hb,hgr,hn,hm,hs,ht⟩⟩:=h
 ·cases hg
 ·obtain rfl:g'=g:=by simpa [Value.ownBlock] using hg
  refine ⟨by simpa using hl,.inr ⟨g',cap,cur.setIfInBounds j u,rfl,hb,?_,hn,hm,by simpa using hs,?_⟩⟩
  ·obtain ⟨hlt,hge⟩:=Array.getElem?_eq_some_iff.1 hgr
   simp [World.setCell,hlt,Array.getElem_modify,hge]
  ·rw [<-ht];simp [List.take_set]
structure Ky where
 kd:Int
 st:ByteArray
 fi:Int
 se:Int
deriving DecidableEq
def iD (k:Ky):Value:=.agg #[.int .i64 k.kd,.string k.st,.int .i64 k.fi,.int .i64 k.se]
structure zw (k:Ky):Prop where
 kd:(Lit.int .i64 k.kd).wf=true
 st:k.st.size<=maxLen
 fi:(Lit.int .i64 k.fi).wf=true
 se:(Lit.int .i64 k.se).wf=true
theorem Om {a b:Ky} (h:iD a=iD b):a=b:=by
 obtain ⟨a1,a2,a3,a4⟩:=a
 obtain ⟨b1,b2,b3,b4⟩:=b
 simp only [iD,Value.agg.injEq,Array.mk.injEq,List.cons.injEq,Value.int.injEq,Value.string.injEq,true_and,and_true] at h
 obtain ⟨rfl,rfl,rfl,rfl⟩:=h
 rfl
theorem TG:(match Tryz.prog.underlying 135 with | some (.array _ _) | some (.struct _)=>true | _=>false)=true:=by kernel_rfl
theorem aaX:Tryz.prog.keyTypeAt 2 135=true:=by kernel_rfl
set_option maxRecDepth 100000 in
theorem Yd:Tryz.prog.tiled 2 135=true:=by kernel_rfl
set_option maxRecDepth 100000 in
theorem acL:WideMaps.KeyLaw Tryz.prog 135:=deep_law (m:=2) (by omega) aaX Yd TG
theorem aaY:Tryz.prog.keyType 135=true:=by kernel_rfl
theorem vJ:Tryz.prog.cellsOf 135=4/\Tryz.prog.cellsOf 133=1/\Tryz.prog.cellsOf 61=1/\Tryz.prog.cellsOf 3=1:=⟨by kernel_rfl,by kernel_rfl,by kernel_rfl,by kernel_rfl⟩
theorem Ye {k:Ky} (h:zw k):∃ l,keyOf Tryz.prog 135 (iD k)=some l:=by
 have hf:(iD k).formed Tryz.prog 135=true:=by kernel_rfl
 have hl:∀ n,Tryz.prog.keyLits (n+2) 135 (iD k).cells.toList=some [.int .i64 k.kd,.string k.st.data.toList,.int .i64 k.fi,.int .i64 k.se]:=by
  intro n
  simp [Program.keyLits,iD,Value.cells,go_sem,h.kd,h.st,h.fi,h.se,vJ.1,vJ.2.1,vJ.2.2.1,vJ.2.2.2]
 obtain ⟨n,hn⟩:∃ n,Tryz.prog.types.size+1=n+2:=⟨Tryz.prog.types.size - 1,by have:0<Tryz.prog.types.size:=of_decide_eq_true (by kernel_rfl);omega⟩
 have hw:=TG
 unfold keyOf
 rw [aaY,hf,hn,hl]
 cases hu:Tryz.prog.underlying 135 with
 | none=>rw [hu] at hw;cases hw
 | some d=>
  rw [hu] at hw
  cases d<;>simp at hw<;>exact ⟨_,rfl⟩
def dM (l:List (Value×Value)):List MapEntry:=l.mapIdx fun i p=>⟨p.1,p.2,i⟩
def mkMap (l:List (Value×Value)):Obj:=.map (dM l).toArray l.length
theorem qZ (l:List (Value×Value)) (j:Nat):(dM l)[j]? = l[j]?.map fun p=>⟨p.1,p.2,j⟩:=by simp [dM]
theorem QR (l:List (Value×Value)) (p:Value×Value):dM (l++[p])=dM l++[⟨p.1,p.2,l.length⟩]:=by simp [dM,List.mapIdx_append]
theorem Ar {l:List (Value×Value)} {e:MapEntry} (h:e∈dM l):∃ p∈l,e.key=p.1/\e.val=p.2:=by
 obtain ⟨j,hj⟩:=List.mem_iff_getElem?.1 h
 rw [qZ] at hj
 obtain ⟨p,hp,rfl⟩:=Option.map_eq_some_iff.1 hj
 exact ⟨p,List.mem_iff_getElem?.2 ⟨j,hp⟩,rfl,rfl⟩
section
variable {P:Program} {k t e:TypeId} {w:World} {b:Nat} {l:List (Value×Value)} {key v:Value}
theorem Ig (K:Maps.Keyed P k) (hl:∀ p∈l,∃ x,keyOf P k p.1=some x) (hk:∃ x,keyOf P k key=some x) (hn:(l.map (·.1)).Nodup) {j:Nat} (hj:l[j]? = some (key,v)) (w:World):(Instr.findKey k key (dM l)).run P w=.ok (some (j,v)) w:=by
 obtain ⟨x,hx⟩:=hk
 have hin:(⟨key,v,j⟩:MapEntry)∈dM l:=List.mem_iff_getElem?.2 ⟨j,by rw [qZ,hj];rfl⟩
 rcases K.find w hx (dM l) (fun e he=>by obtain ⟨p,hp,h1,_⟩:=Ar he;rw [h1];exact hl p hp) with ⟨_,h2⟩ | ⟨i,e',h1,h2,h3⟩
 ·exact absurd rfl (h2 _ hin)
 ·rw [qZ] at h2
  obtain ⟨p,hp,rfl⟩:=Option.map_eq_some_iff.1 h2
  have hi:(l.map (·.1))[i]? = some key:=by rw [List.getElem?_map,hp];exact congrArg some h3
  have hj':(l.map (·.1))[j]? = some key:=by rw [List.getElem?_map,hj];rfl
  have hij:i=j:=by
   have a1:=(List.getElem?_eq_some_iff.1 hi).1
   exact (List.getElem?_inj a1 hn).1 (hi.trans hj'.symm)
  subst hij
  rw [hj] at hp
  cases hp
  exact h1
theorem Ed (K:Maps.Keyed P k) (hl:∀ p∈l,∃ x,keyOf P k p.1=some x) (hk:∃ x,keyOf P k key=some x) (hm:∀ p∈l,p.1≠key) (w:World):(Instr.findKey k key (dM l)).run P w=.ok none w:=by
 obtain ⟨x,hx⟩:=hk
 rcases K.find w hx (dM l) (fun e he=>by obtain ⟨p,hp,h1,_⟩:=Ar he;rw [h1];exact hl p hp) with ⟨h1,_⟩ | ⟨i,e',_,h2,h3⟩
 ·exact h1
 ·obtain ⟨p,hp,h4,_⟩:=Ar (List.mem_iff_getElem?.2 ⟨i,h2⟩)
  exact absurd (h4.symm.trans h3) (hm p hp)
theorem vK (K:Maps.Keyed P k) (ht:P.underlying t=some (.map k e)) (hb:w.heap[b]? = some (mkMap l)) (hl:∀ p∈l,∃ x,keyOf P k p.1=some x) (hk:∃ x,keyOf P k key=some x) (hn:(l.map (·.1)).Nodup) {j:Nat} (hj:l[j]? = some (key,v)) :
  (Instr.lookup t (.map (some b)) key true).run P w=.ok (.tuple #[v,.bool true]) w:=by
 have hb':w.heap[b]? = some (.map (dM l).toArray l.length):=hb
 have hf:=Ig K hl hk hn hj w
 obtain ⟨x,hx⟩:=hk
 simp [Instr.lookup,run_underlying ht,MapKept.run_getObj_map hb',K.check w _ hx,hf,Result.andThen]
theorem sS (K:Maps.Keyed P k) (ht:P.underlying t=some (.map k e)) (hb:w.heap[b]? = some (mkMap l)) (hl:∀ p∈l,∃ x,keyOf P k p.1=some x) (hk:∃ x,keyOf P k key=some x) (hm:∀ p∈l,p.1≠key) {z:Value} (hz:(zeroValue e).run P w=.ok z w) :
  (Instr.lookup t (.map (some b)) key true).run P w=.ok (.tuple #[z,.bool false]) w:=by
 have hb':w.heap[b]? = some (.map (dM l).toArray l.length):=hb
 have hf:=Ed K hl hk hm w
 obtain ⟨x,hx⟩:=hk
 simp [Instr.lookup,run_underlying ht,MapKept.run_getObj_map hb',K.check w _ hx,hf,hz,Result.andThen]
theorem vL (K:Maps.Keyed P k) (ht:P.underlying t=some (.map k e)) (hb:w.heap[b]? = some (mkMap l)) (hl:∀ p∈l,∃ x,keyOf P k p.1=some x) (hk:∃ x,keyOf P k key=some x) (hm:∀ p∈l,p.1≠key) (v:Value) :
  (Instr.mapUpdate t (.map (some b)) key v).run P w=.ok () (ChangeMaps.setBlock w b (mkMap (l++[(key,v)]))):=by
 have hb':w.heap[b]? = some (.map (dM l).toArray l.length):=hb
 have hf:=Ed K hl hk hm w
 obtain ⟨x,hx⟩:=hk
 simp [Instr.mapUpdate,run_underlying ht,MapKept.run_getObj_map hb',K.check w _ hx,hf,MapKept.run_setObj_map _ hb',Result.andThen,ChangeMaps.setBlock,mkMap,QR]
theorem Yf (K:Maps.Keyed P k) (ht:P.underlying t=some (.map k e)) (hb:w.heap[b]? = some (mkMap l)) (hl:∀ p∈l,∃ x,keyOf P k p.1=some x) (hk:∃ x,keyOf P k key=some x) (hn:(l.map (·.1)).Nodup) {j:Nat} (hj:l[j]? = some (key,v)) :
  (Instr.mapUpdate t (.map (some b)) key v).run P w=.ok () w:=by
 have hb':w.heap[b]? = some (.map (dM l).toArray l.length):=hb
 have hf:=Ig K hl hk hn hj w
 obtain ⟨x,hx⟩:=hk
 have hg:(dM l).toArray[j]? = some ⟨key,v,j⟩:=by rw [List.getElem?_toArray,qZ,hj];rfl
 have hlt:j<(dM l).toArray.size:=(Array.getElem?_eq_some_iff.1 hg).1
 have hlt':j<(dM l).length:=by simpa using hlt
 have hge:(dM l)[j]? = some ⟨key,v,j⟩:=by rw [qZ,hj];rfl
 have hgg:(dM l)[j]=⟨key,v,j⟩:=(List.getElem?_eq_some_iff.1 hge).2
 have hmod:(dM l).modify j (fun e=>{ e with key:=key,val:=v })=dM l:=by
  apply List.ext_getElem (by simp)
  intro i h1 h2
  rw [List.getElem_modify]
  split
  ·rename_i hij
   subst hij
   rw [hgg]
  ·rfl
 have hset:w.heap.setIfInBounds b (.map (dM l).toArray l.length)=w.heap:=by
  have hbl:=(Array.getElem?_eq_some_iff.1 hb').1
  apply Array.ext (by simp)
  intro i h1 h2
  rw [Array.getElem_setIfInBounds h2]
  split
  ·rename_i hij
   subst hij
   exact ((Array.getElem?_eq_some_iff.1 hb').2).symm
  ·rfl
 simp [Instr.mapUpdate,run_underlying ht,MapKept.run_getObj_map hb',K.check w _ hx,hf,hge,K.stays w hx,MapKept.run_setObj_map _ hb',Result.andThen,hmod,hset]
end
end Go.Proofs.YtfolanohokflkaaGreatDoor
namespace Go.Proofs.YtfolanohokflkaaGreatDoor
def dA (n:Int):Int:=if 60<n then 61 else n
def aF (n:Int):Bool:=decide (0<=n/\n<=1114111/\(n<55296\/57343<n))
def Ee (s:ByteArray) (i:Nat):Int:=if i<s.size/\(s.get! i).toNat / 64=2 then (((s.get! i).toNat % 64:Nat):Int) else -1
theorem Au (s:ByteArray) (i:Nat) (h:i<s.size):s.get! i=s[i]:=by simp [ByteArray.get!,h];rfl
def jG (s:ByteArray) (i:Nat):Nat->Nat->Int->Option Int
 | 0,_,n=>some n
 | m+1,k,n=>if Ee s (i+k)<0 then none else jG s i m (k+1) (64*n+Ee s (i+k))
def mY (size:Nat) (least:Int):Option Int->Int×Int
 | none=>(65533,1)
 | some n=>if n<least then (65533,1) else if aF n=true then (n,size) else (65533,1)
def Oo (s:ByteArray) (i:Nat):Int×Int:=
 let b:Int:=((s.get! i).toNat:Int)
 if b<128 then (b,1)
 else if 192<=b/\b<224 then mY 2 128 (jG s i 1 1 (b - 192))
 else if 224<=b/\b<240 then mY 3 2048 (jG s i 2 1 (b - 224))
 else if 240<=b/\b<248 then mY 4 65536 (jG s i 3 1 (b - 240))
 else (65533,1)
theorem mQ {s:ByteArray} {i:Nat} (c:i<s.size/\(s.get! i).toNat / 64=2):Ee s i=(((s.get! i).toNat % 64:Nat):Int):=if_pos c
theorem oP {s:ByteArray} {i:Nat} (c:¬ (i<s.size/\(s.get! i).toNat / 64=2)):Ee s i=-1:=if_neg c
theorem jU {s:ByteArray} {i k m:Nat} {n t:Int} (h:Ee s (i+k)=t) (h0:0<=t):jG s i (m+1) k n=jG s i m (k+1) (64*n+t):=by
 rw [jG,h,if_neg (by omega)]
theorem kW {s:ByteArray} {i k m:Nat} {n:Int} (h:Ee s (i+k)=-1):jG s i (m+1) k n=none:=by
 rw [jG,h,if_pos (by omega)]
theorem uC {n:Int} (h:0<=n/\n<=1114111/\(n<55296\/57343<n)):aF n=true:=by simpa [aF] using h
theorem yO {n:Int} (h:¬ (0<=n/\n<=1114111/\(n<55296\/57343<n))):¬ aF n=true:=by simpa [aF] using h
theorem gq {a b:Int} {c d:Nat} (h1:a=c) (h2:b=d):(a,b)=(((c,d):Nat×Nat).1.cast,((c,d):Nat×Nat).2.cast):=by rw [h1,h2]
theorem FK (s:ByteArray) (i:Nat):Oo s i=(((Utf8.decode s i).1:Int),((Utf8.decode s i).2:Int)):=by
 have g0:=(s.get! i).toNat_lt
 have g1:=(s.get! (i+1)).toNat_lt
 have g2:=(s.get! (i+2)).toNat_lt
 have g3:=(s.get! (i+3)).toNat_lt
 unfold Oo Utf8.decode
 simp only [Utf8.valid,Utf8.runeError,Nat.add_zero,Bool.and_eq_true,Bool.or_eq_true,beq_iff_eq,decide_eq_true_eq,ge_iff_le]
 by_cases h0:(s.get! i).toNat<128
 ·rw [if_pos (by omega),if_pos h0];exact gq rfl rfl
 rw [if_neg (by omega),if_neg h0]
 by_cases h1:192<=(s.get! i).toNat/\(s.get! i).toNat<224
 ·rw [if_pos (by omega)]
  by_cases c1:i+1<s.size/\(s.get! (i+1)).toNat / 64=2
  ·rw [jU (mQ c1) (by omega),jG,if_pos (by omega)]
   by_cases k1:128<=(s.get! i).toNat % 32*64+(s.get! (i+1)).toNat % 64
   ·rw [if_pos k1,mY,if_neg (by omega),if_pos (uC (by omega))];exact gq (by omega) rfl
   ·rw [if_neg k1,mY,if_pos (by omega)];exact gq rfl rfl
  ·rw [kW (oP c1),if_neg (by omega),if_neg (by omega),if_neg (by omega)];exact gq rfl rfl
 rw [if_neg (by omega)]
 by_cases h2:224<=(s.get! i).toNat/\(s.get! i).toNat<240
 ·rw [if_pos (by omega)]
  by_cases c1:i+1<s.size/\(s.get! (i+1)).toNat / 64=2
  ·rw [jU (mQ c1) (by omega)]
   by_cases c2:i+2<s.size/\(s.get! (i+2)).toNat / 64=2
   ·rw [jU (mQ (i:=i+2) c2) (by omega),jG,if_neg (by omega),if_pos (by omega)]
    by_cases k1:2048<=(s.get! i).toNat % 16*4096+(s.get! (i+1)).toNat % 64*64+(s.get! (i+2)).toNat % 64
    ·rw [mY,if_neg (by omega)]
     by_cases k2:(s.get! i).toNat % 16*4096+(s.get! (i+1)).toNat % 64*64+(s.get! (i+2)).toNat % 64<55296\/57344<=(s.get! i).toNat % 16*4096+(s.get! (i+1)).toNat % 64*64+(s.get! (i+2)).toNat % 64
     ·rw [if_pos (uC (by omega)),if_pos (by omega)];exact gq (by omega) rfl
     ·rw [if_neg (yO (by omega)),if_neg (by omega)];exact gq rfl rfl
    ·rw [mY,if_pos (by omega),if_neg (by omega)];exact gq rfl rfl
   ·rw [kW (oP (i:=i+2) c2),if_neg (by omega),if_neg (by omega),if_neg (by omega)];exact gq rfl rfl
  ·rw [kW (oP c1),if_neg (by omega),if_neg (by omega),if_neg (by omega)];exact gq rfl rfl
 rw [if_neg (by omega)]
 by_cases h3:240<=(s.get! i).toNat/\(s.get! i).toNat<248
 ·rw [if_pos (by omega)]
  by_cases c1:i+1<s.size/\(s.get! (i+1)).toNat / 64=2
  ·rw [jU (mQ c1) (by omega)]
   by_cases c2:i+2<s.size/\(s.get! (i+2)).toNat / 64=2
   ·rw [jU (mQ (i:=i+2) c2) (by omega)]
    by_cases c3:i+3<s.size/\(s.get! (i+3)).toNat / 64=2
    ·rw [jU (mQ (i:=i+3) c3) (by omega),jG,if_neg (by omega),if_neg (by omega),if_pos (by omega)]
     by_cases k1:65536<=(s.get! i).toNat % 8*262144+(s.get! (i+1)).toNat % 64*4096+(s.get! (i+2)).toNat % 64*64+(s.get! (i+3)).toNat % 64
     ·rw [mY,if_neg (by omega)]
      by_cases k2:(s.get! i).toNat % 8*262144+(s.get! (i+1)).toNat % 64*4096+(s.get! (i+2)).toNat % 64*64+(s.get! (i+3)).toNat % 64<=1114111
      ·rw [if_pos (uC (by omega)),if_pos (by omega)];exact gq (by omega) rfl
      ·rw [if_neg (yO (by omega)),if_neg (by omega)];exact gq rfl rfl
     ·rw [mY,if_pos (by omega),if_neg (by omega)];exact gq rfl rfl
    ·rw [kW (oP (i:=i+3) c3),if_neg (by omega),if_neg (by omega),if_neg (by omega)];exact gq rfl rfl
   ·rw [kW (oP (i:=i+2) c2),if_neg (by omega),if_neg (by omega),if_neg (by omega)];exact gq rfl rfl
  ·rw [kW (oP c1),if_neg (by omega),if_neg (by omega),if_neg (by omega)];exact gq rfl rfl
 rw [if_neg (by omega),if_neg (by omega),if_neg (by omega),if_neg (by omega)];exact gq rfl rfl
end Go.Proofs.YtfolanohokflkaaGreatDoor
namespace Go.Proofs.YtfolanohokflkaaGreatDoor
open Go.RowKit
theorem hide {p:Prop} (h:p):Hid p:=h
theorem aa {p:Prop} (h:Hid p):p:=h
theorem Yg {k:IntKind} {a b:Int} (h:a=b):Ending.returned (.int k a)=.returned (.int k b):=by rw [h]
structure TB where
 tb:Nat
 nb:Nat
 sb:Nat
 cb:Nat
 ta:Option Addr
 tn:Nat
 tc:Nat
def TB.row (t:TB):Option Nat:=t.ta.map (·.block)
abbrev fv (n:Nat):Value:=.func (.func n) #[] #[]
def dN:List Value:=[fv 163,fv 164,fv 166,fv 168,fv 169,fv 170,fv 171,fv 172,fv 173,fv 175,fv 176,fv 177,fv 178,fv 179,fv 182,fv 183,fv 184,fv 185,fv 186,fv 187,fv 188]
def n_ (t:TB):List Value:=dN++[.map (some t.nb),.slice t.ta t.tn t.tc,.map (some t.sb),.map (some t.cb)]
abbrev Te:=Ky×Bool
def d_:List Te->List Value
 | []=>[]
 | x::l=>[.int .i64 x.1.kd,.string x.1.st,.int .i64 x.1.fi,.int .i64 x.1.se,.bool x.2]++d_ l
theorem Aw (a c:List Te):d_ (a++c)=d_ a++d_ c:=by
 induction a with
 | nil=>rfl
 | cons x l ih=>simp [d_,ih]
theorem TH:∀ (T:List Te) (i:Nat) (x:Te),T[i]? = some x->(d_ T)[i*5]? = some (.int .i64 x.1.kd)/\(d_ T)[i*5+1]? = some (.string x.1.st)/\(d_ T)[i*5+2]? = some (.int .i64 x.1.fi)/\(d_ T)[i*5+3]? = some (.int .i64 x.1.se)/\(d_ T)[i*5+4]? = some (.bool x.2)
 | [],i,x,h=>by simp at h
 | y::l,0,x,h=>by
  simp at h
  subst h
  simp [d_]
 | y::l,i+1,x,h=>by
  have hh:=TH l i x (by simpa using h)
  have e:∀ j,(d_ (y::l))[j+5]? = (d_ l)[j]? := fun j=>by
   show ([_,_,_,_,_]++d_ l)[j+5]? = _
   simp
  rw [show (i+1)*5=i*5+5 from by omega,show i*5+5+1=(i*5+1)+5 from by omega,show i*5+5+2=(i*5+2)+5 from by omega,show i*5+5+3=(i*5+3)+5 from by omega,show i*5+5+4=(i*5+4)+5 from by omega,e,e,e,e,e]
  exact hh
def ak (T:List Te):List (Value×Value):=T.mapIdx fun i x=>(iD x.1,.int .i64 i)
theorem DJ (T:List Te) (x:Te):ak (T++[x])=ak T++[(iD x.1,.int .i64 T.length)]:=by simp [ak,List.mapIdx_append]
theorem qa (T:List Te) (i:Nat):(ak T)[i]? = T[i]?.map fun x=>(iD x.1,.int .i64 i):=by simp [ak]
theorem vM {T:List Te} {p:Value×Value} (h:p∈ak T):∃ x∈T,p.1=iD x.1:=by
 obtain ⟨j,hj⟩:=List.mem_iff_getElem?.1 h
 rw [qa] at hj
 obtain ⟨x,hx,rfl⟩:=Option.map_eq_some_iff.1 hj
 exact ⟨x,List.mem_iff_getElem?.2 ⟨j,hx⟩,rfl⟩
theorem DK (T:List Te):(ak T).map (·.1)=T.map fun x=>iD x.1:=by
 apply List.ext_getElem?
 intro i
 rw [List.getElem?_map,qa,List.getElem?_map]
 cases T[i]? <;> rfl
structure aX (w:World) (t:TB) (T:List Te) (N S C:List (Value×Value)):Prop where
 tb:w.heap[t.tb]? = some (.cells (n_ t).toArray 131 (0,0))
 nb:w.heap[t.nb]? = some (mkMap N)
 sb:w.heap[t.sb]? = some (mkMap S)
 cb:w.heap[t.cb]? = some (mkMap C)
 row:w.ownsRow 0 161 5 (.slice t.ta t.tn t.tc) T.length (d_ T)
 ne:t.tb≠t.nb/\t.tb≠t.sb/\t.tb≠t.cb/\t.nb≠t.sb/\t.nb≠t.cb/\t.sb≠t.cb
 nr:∀ a,t.ta=some a->a.block≠t.tb/\a.block≠t.nb/\a.block≠t.sb/\a.block≠t.cb
 ok:∀ x∈T,zw x.1
 nd:(T.map (·.1)).Nodup
def TF (t:TB) (k:Nat):Prop:=k=t.tb\/k=t.nb\/k=t.sb\/k=t.cb\/t.row=some k
structure a_ (t t':TB) (w w':World):Prop where
 os:w'.os=w.os
 tape:w'.tape=w.tape
 output:w'.output=w.output
 size:w.heap.size<=w'.heap.size
 block:∀ k,k<w.heap.size->¬ TF t k->w'.heap[k]? = w.heap[k]?
 tb:t'.tb=t.tb
 nb:t'.nb=t.nb
 sb:t'.sb=t.sb
 cb:t'.cb=t.cb
 row:∀ k,t'.row=some k->t.row=some k\/w.heap.size<=k
theorem a_.foot {t t':TB} {w w':World} (h:a_ t t' w w') {k:Nat} (hk:TF t' k):TF t k\/w.heap.size<=k:=by
 rcases hk with e | e | e | e | e
 ·exact .inl (.inl (e.trans h.tb))
 ·exact .inl (.inr (.inl (e.trans h.nb)))
 ·exact .inl (.inr (.inr (.inl (e.trans h.sb))))
 ·exact .inl (.inr (.inr (.inr (.inl (e.trans h.cb)))))
 ·exact (h.row k e).imp (fun e=>.inr (.inr (.inr (.inr e)))) id
theorem a_.refl (t:TB) (w:World):a_ t t w w:=⟨rfl,rfl,rfl,Nat.le_refl _,fun _ _ _=>rfl,rfl,rfl,rfl,rfl,fun _ h=>.inl h⟩
theorem a_.trans {t t' t'':TB} {w w' w'':World} (h:a_ t t' w w') (k:a_ t' t'' w' w''):a_ t t'' w w'':=
 ⟨k.os.trans h.os,k.tape.trans h.tape,k.output.trans h.output,Nat.le_trans h.size k.size,fun i hi hf=>(k.block i (Nat.lt_of_lt_of_le hi h.size) (fun hf'=>(h.foot hf').elim hf (fun hl=>by omega))).trans (h.block i hi hf),k.tb.trans h.tb,k.nb.trans h.nb,k.sb.trans h.sb,k.cb.trans h.cb,fun i hi=>(k.row i hi).elim (fun e=>h.row i e) (fun hl=>.inr (Nat.le_trans h.size hl))⟩
theorem a_.below {t:TB} {w w':World} (h:Below w.heap.size w w'):a_ t t w w':=⟨h.os,h.tape,h.output,h.size,fun k hk _=>h.block k hk,rfl,rfl,rfl,rfl,fun _ h=>.inl h⟩
section
variable {w w':World} {t:TB} {T:List Te} {N S C:List (Value×Value)}
theorem aX.move (h:aX w t T N S C) (hm:∀ k,TF t k->k<w.heap.size->w'.heap[k]? = w.heap[k]?):aX w' t T N S C:=by
 have lt:∀ {k:Nat} {o:Obj},w.heap[k]? = some o->k<w.heap.size:=fun e=>(Array.getElem?_eq_some_iff.1 e).1
 refine ⟨(hm _ (.inl rfl) (lt h.tb)).trans h.tb,(hm _ (.inr (.inl rfl)) (lt h.nb)).trans h.nb,(hm _ (.inr (.inr (.inl rfl))) (lt h.sb)).trans h.sb,(hm _ (.inr (.inr (.inr (.inl rfl)))) (lt h.cb)).trans h.cb,?_,h.ne,h.nr,h.ok,h.nd⟩
 obtain ⟨hl,hx | ⟨g,cap,cur,hv,hb',hg,rest⟩⟩:=h.row
 ·exact ⟨hl,.inl hx⟩
 ·refine ⟨hl,.inr ⟨g,cap,cur,hv,hb',?_,rest⟩⟩
  rw [hm g (.inr (.inr (.inr (.inr (by injection hv with e;simp [TB.row,e]))))) (lt hg)]
  exact hg
theorem aX.below (h:Hid (aX w t T N S C)) (hb:Below w.heap.size w w'):Hid (aX w' t T N S C):=(aa h).move fun k _ hk=>hb.block k hk
theorem aX.alloc (h:Hid (aX w t T N S C)) (o:Obj):Hid (aX (w.alloc o) t T N S C):=aX.below h ((Below.refl _ _).alloc (Nat.le_refl _) o)
theorem aX.lt (h:aX w t T N S C):t.tb<w.heap.size:=(Array.getElem?_eq_some_iff.1 h.tb).1
theorem aX.foot (h:aX w t T N S C) {k:Nat} (hk:TF t k):k<w.heap.size:=by
 rcases hk with rfl | rfl | rfl | rfl | e
 ·exact (Array.getElem?_eq_some_iff.1 h.tb).1
 ·exact (Array.getElem?_eq_some_iff.1 h.nb).1
 ·exact (Array.getElem?_eq_some_iff.1 h.sb).1
 ·exact (Array.getElem?_eq_some_iff.1 h.cb).1
 ·refine (h.row.lt k ?_).2
  simp only [TB.row,Option.map_eq_some_iff] at e
  obtain ⟨a,ha,rfl⟩:=e
  rw [ha]
  rfl
theorem aX.cells (h:aX w t T N S C):w.cell? ⟨t.tb,21,none⟩=some (.map (some t.nb))/\w.cell? ⟨t.tb,22,none⟩=some (.slice t.ta t.tn t.tc)/\w.cell? ⟨t.tb,23,none⟩=some (.map (some t.sb))/\w.cell? ⟨t.tb,24,none⟩=some (.map (some t.cb)):=by
 have e:=h.tb
 refine ⟨?_,?_,?_,?_⟩<;>simp [World.cell?,e,n_,dN]
theorem aX.kind (h:aX w t T N S C) {j:Nat} {v:Value} (hj:dN[j]? = some v):w.cell? ⟨t.tb,j,none⟩=some v:=by
 have e:=h.tb
 have hl:j<dN.length:=(List.getElem?_eq_some_iff.1 hj).1
 simp [World.cell?,e,n_,List.getElem?_append_left hl,hj]
theorem aX.fz (h:aX w t T N S C) (j:Nat):w.frozen? ⟨t.tb,j,none⟩=false:=by
 have e:=h.tb
 simp [World.frozen?,e]
theorem aX.term (h:aX w t T N S C) {i:Nat} {x:Te} (hi:T[i]? = some x):∃ g,t.ta=some ⟨g,0,none⟩/\t.tn=T.length/\w.cell? ⟨g,i*5,none⟩=some (.int .i64 x.1.kd)/\w.cell? ⟨g,i*5+1,none⟩=some (.string x.1.st)/\w.cell? ⟨g,i*5+2,none⟩=some (.int .i64 x.1.fi)/\w.cell? ⟨g,i*5+3,none⟩=some (.int .i64 x.1.se)/\w.cell? ⟨g,i*5+4,none⟩=some (.bool x.2):=by
 have hlt:i<T.length:=(List.getElem?_eq_some_iff.1 hi).1
 have hr:=h.row
 obtain ⟨hl,⟨hv,hn⟩ | ⟨g,cap,cur,hv,hb',hg,rest⟩⟩:=h.row
 ·omega
 ·injection hv with e1 e2 e3
  rw [e1,e2,e3] at hr
  obtain ⟨a0,a1,a2,a3,a4⟩:=TH T i x hi
  refine ⟨g,e1,e2,?_,?_,?_,?_,?_⟩
  ·rw [hr.cellAt _ (by omega)];exact a0
  ·rw [hr.cellAt _ (by omega)];exact a1
  ·rw [hr.cellAt _ (by omega)];exact a2
  ·rw [hr.cellAt _ (by omega)];exact a3
  ·rw [hr.cellAt _ (by omega)];exact a4
end
theorem sU (w:World) (o:Obj) (n:Nat):Hid (Below w.heap.size w ((w.alloc o).drewN n)):=by
 have h:Below w.heap.size w (w.alloc o):=(Below.refl _ _).alloc (Nat.le_refl _) _
 exact ⟨h.os,h.tape,h.output,h.size,h.block⟩
section
variable {w:World} {t:TB} {T:List Te} {N S C:List (Value×Value)} {k:Ky}
theorem aaZ:Calls Tryz.prog 163 #[.pointer (some ⟨t.tb,0,none⟩),iD k] w fun x w'=>x=.returned (.bool false)/\Hid (Below w.heap.size w w'):=by
 unfold iD
 go_enter Tryz.func163,Tryz.ntmps163
 go_wp2_with fail
 go_ret
 exact ⟨rfl,(Below.refl _ _).alloc (Nat.le_refl _) _⟩
theorem TL:Calls Tryz.prog 168 #[.pointer (some ⟨t.tb,0,none⟩),iD k] w fun x w'=>x=.returned (.bool true)/\Hid (Below w.heap.size w w'):=by
 unfold iD
 go_enter Tryz.func168,Tryz.ntmps168
 go_wp2_with fail
 go_ret
 exact ⟨rfl,(Below.refl _ _).alloc (Nat.le_refl _) _⟩
theorem Yh:Calls Tryz.prog 175 #[.pointer (some ⟨t.tb,0,none⟩),iD k] w fun x w'=>x=.returned (.bool true)/\Hid (Below w.heap.size w w'):=by
 unfold iD
 go_enter Tryz.func175,Tryz.ntmps175
 go_wp2_with fail
 go_ret
 exact ⟨rfl,(Below.refl _ _).alloc (Nat.le_refl _) _⟩
set_option maxRecDepth 100000 in
set_option maxHeartbeats 4000000 in
theorem aa0 (h:Hid (aX w t T N S C)) {i:Nat} {x:Te} (hi:T[i]? = some x) (hfi:k.fi=(i:Int)):Calls Tryz.prog 186 #[.pointer (some ⟨t.tb,0,none⟩),iD k] w fun e w'=>e=.returned (.bool (!x.2))/\Hid (Below w.heap.size w w'):=by
 obtain ⟨kd,st,fi,se⟩:=k
 dsimp only at hfi
 subst hfi
 unfold iD
 dsimp only
 have H1:=aa (aX.alloc h (.cells #[.int .i64 kd,.string st,.int .i64 i,.int .i64 se] 135))
 obtain ⟨g,ea,en,c0,c1,c2,c3,c4⟩:=H1.term hi
 obtain ⟨q1,q2,q3,q4⟩:=H1.cells
 rw [ea,en] at q2
 have hlt:i<T.length:=(List.getElem?_eq_some_iff.1 hi).1
 have hI:(i:Int)<(T.length:Int):=by omega
 have hI0:(0:Int)<=(i:Int):=by omega
 clear H1 h
 go_enter Tryz.func186,Tryz.ntmps186
 go_wp2_with fail
 go_quiet (fail)
 go_wp2_with fail
 go_ret
 exact ⟨rfl,sU _ _ _⟩
set_option maxRecDepth 100000 in
set_option maxHeartbeats 4000000 in
theorem TM (h:Hid (aX w t T N S C)) {i j:Nat} {x y:Te} (hi:T[i]? = some x) (hj:T[j]? = some y) (hfi:k.fi=(i:Int)) (hse:k.se=(j:Int)):Calls Tryz.prog 171 #[.pointer (some ⟨t.tb,0,none⟩),iD k] w fun e w'=>e=.returned (.bool (x.2&&y.2))/\Hid (Below w.heap.size w w'):=by
 obtain ⟨kd,st,fi,se⟩:=k
 dsimp only at hfi hse
 subst hfi
 subst hse
 unfold iD
 dsimp only
 have H1:=aa (aX.alloc h (.cells #[.int .i64 kd,.string st,.int .i64 i,.int .i64 j] 135))
 obtain ⟨g,ea,en,c0,c1,c2,c3,c4⟩:=H1.term hi
 obtain ⟨g',ea',en',d0,d1,d2,d3,d4⟩:=H1.term hj
 have hg:g'=g:=by rw [ea] at ea';injection ea' with ea';injection ea' with ea';exact ea'.symm
 subst hg
 obtain ⟨q1,q2,q3,q4⟩:=H1.cells
 rw [ea,en] at q2
 have hlt:i<T.length:=(List.getElem?_eq_some_iff.1 hi).1
 have hlt':j<T.length:=(List.getElem?_eq_some_iff.1 hj).1
 have hI:(i:Int)<(T.length:Int):=by omega
 have hI0:(0:Int)<=(i:Int):=by omega
 have hJ:(j:Int)<(T.length:Int):=by omega
 have hJ0:(0:Int)<=(j:Int):=by omega
 clear H1 h ea' en' ea en
 obtain ⟨xk,xb⟩:=x
 obtain ⟨yk,yb⟩:=y
 dsimp only at *
 cases xb
 all_goals
  go_enter Tryz.func171,Tryz.ntmps171
  go_wp2_with fail
  go_quiet (fail)
  go_wp2_with fail
  go_ret
  exact ⟨by simp,sU _ _ _⟩
set_option maxRecDepth 100000 in
set_option maxHeartbeats 4000000 in
theorem aa1 (h:Hid (aX w t T N S C)) {i j:Nat} {x y:Te} (hi:T[i]? = some x) (hj:T[j]? = some y) (hfi:k.fi=(i:Int)) (hse:k.se=(j:Int)):Calls Tryz.prog 178 #[.pointer (some ⟨t.tb,0,none⟩),iD k] w fun e w'=>e=.returned (.bool (x.2||y.2))/\Hid (Below w.heap.size w w'):=by
 obtain ⟨kd,st,fi,se⟩:=k
 dsimp only at hfi hse
 subst hfi
 subst hse
 unfold iD
 dsimp only
 have H1:=aa (aX.alloc h (.cells #[.int .i64 kd,.string st,.int .i64 i,.int .i64 j] 135))
 obtain ⟨g,ea,en,c0,c1,c2,c3,c4⟩:=H1.term hi
 obtain ⟨g',ea',en',d0,d1,d2,d3,d4⟩:=H1.term hj
 have hg:g'=g:=by rw [ea] at ea';injection ea' with ea';injection ea' with ea';exact ea'.symm
 subst hg
 obtain ⟨q1,q2,q3,q4⟩:=H1.cells
 rw [ea,en] at q2
 have hlt:i<T.length:=(List.getElem?_eq_some_iff.1 hi).1
 have hlt':j<T.length:=(List.getElem?_eq_some_iff.1 hj).1
 have hI:(i:Int)<(T.length:Int):=by omega
 have hI0:(0:Int)<=(i:Int):=by omega
 have hJ:(j:Int)<(T.length:Int):=by omega
 have hJ0:(0:Int)<=(j:Int):=by omega
 clear H1 h ea' en' ea en
 obtain ⟨xk,xb⟩:=x
 obtain ⟨yk,yb⟩:=y
 dsimp only at *
 cases xb
 all_goals
  go_enter Tryz.func178,Tryz.ntmps178
  go_wp2_with fail
  go_quiet (fail)
  go_wp2_with fail
  go_ret
  exact ⟨by simp,sU _ _ _⟩
set_option maxRecDepth 100000 in
set_option maxHeartbeats 4000000 in
theorem aa2 (h:Hid (aX w t T N S C)) {i j:Nat} {x y:Te} (hi:T[i]? = some x) (hj:T[j]? = some y) (hfi:k.fi=(i:Int)) (hse:k.se=(j:Int)):Calls Tryz.prog 183 #[.pointer (some ⟨t.tb,0,none⟩),iD k] w fun e w'=>e=.returned (.bool (x.2&&y.2))/\Hid (Below w.heap.size w w'):=by
 obtain ⟨kd,st,fi,se⟩:=k
 dsimp only at hfi hse
 subst hfi
 subst hse
 unfold iD
 dsimp only
 have H1:=aa (aX.alloc h (.cells #[.int .i64 kd,.string st,.int .i64 i,.int .i64 j] 135))
 obtain ⟨g,ea,en,c0,c1,c2,c3,c4⟩:=H1.term hi
 obtain ⟨g',ea',en',d0,d1,d2,d3,d4⟩:=H1.term hj
 have hg:g'=g:=by rw [ea] at ea';injection ea' with ea';injection ea' with ea';exact ea'.symm
 subst hg
 obtain ⟨q1,q2,q3,q4⟩:=H1.cells
 rw [ea,en] at q2
 have hlt:i<T.length:=(List.getElem?_eq_some_iff.1 hi).1
 have hlt':j<T.length:=(List.getElem?_eq_some_iff.1 hj).1
 have hI:(i:Int)<(T.length:Int):=by omega
 have hI0:(0:Int)<=(i:Int):=by omega
 have hJ:(j:Int)<(T.length:Int):=by omega
 have hJ0:(0:Int)<=(j:Int):=by omega
 clear H1 h ea' en' ea en
 obtain ⟨xk,xb⟩:=x
 obtain ⟨yk,yb⟩:=y
 dsimp only at *
 cases xb
 all_goals
  go_enter Tryz.func183,Tryz.ntmps183
  go_wp2_with fail
  go_quiet (fail)
  go_wp2_with fail
  go_ret
  exact ⟨by simp,sU _ _ _⟩
end
theorem FL:Maps.Keyed Tryz.prog 135:=Maps.Keyed.of_law acL
section
variable {w:World} {t:TB} {T:List Te} {N S C:List (Value×Value)} {k:Ky}
theorem aX.keys (h:aX w t T N S C):∀ p∈ak T,∃ x,keyOf Tryz.prog 135 p.1=some x:=fun p hp=>by
 obtain ⟨x,hx,e⟩:=vM hp
 rw [e]
 exact Ye (h.ok x hx)
theorem aX.nodup (h:aX w t T N S C):((ak T).map (·.1)).Nodup:=by
 rw [DK,show (T.map fun x=>iD x.1)=(T.map (·.1)).map iD from by simp]
 exact List.Pairwise.map iD (fun a b hab e=>hab (Om e)) h.nd
theorem aX.known (h:aX w t T (ak T) S C) {i:Nat} {x:Te} (hi:T[i]? = some x):(Instr.lookup 126 (.map (some t.nb)) (iD x.1) true).run Tryz.prog w=.ok (.tuple #[.int .i64 i,.bool true]) w:=
 vK FL Tryz.underlying126 h.nb h.keys (Ye (h.ok x (List.mem_iff_getElem?.2 ⟨i,hi⟩))) h.nodup (by rw [qa,hi];rfl)
theorem aX.drew (h:aX w t T N S C) (n:Nat):aX (w.drewN n) t T N S C:=⟨h.tb,h.nb,h.sb,h.cb,h.row,h.ne,h.nr,h.ok,h.nd⟩
set_option maxRecDepth 100000 in
set_option maxHeartbeats 4000000 in
theorem TN (h:Hid (aX w t T (ak T) S C)) {i:Nat} {b:Bool} (hi:T[i]? = some (k,b)):Calls Tryz.prog 84 #[.pointer (some ⟨t.tb,0,none⟩),iD k] w fun e w'=>e=.returned (.int .i64 i)/\Hid (Below w.heap.size w w'):=by
 obtain ⟨kd,st,fi,se⟩:=k
 have H1:=aa (aX.alloc h (.cells #[.int .i64 kd,.string st,.int .i64 fi,.int .i64 se] 135))
 obtain ⟨q1,q2,q3,q4⟩:=H1.cells
 have hl:=fun n=>(H1.drew n).known hi
 unfold iD at hl ⊢
 dsimp only at hl ⊢
 have hl0:=H1.known hi
 unfold iD at hl0
 dsimp only at hl0
 clear H1 h
 go_enter Tryz.func84,Tryz.ntmps84
 go_wp2_with fail
 go_quiet (fail)
 go_wp2_with fail
 go_ret
 exact ⟨rfl,sU _ _ _⟩
end
end Go.Proofs.YtfolanohokflkaaGreatDoor
