/-
  Joined: pack.Num: the number's bytes.; A builder of the call's own; pack.List.; The developers' DraftText.; The developers' joined.; The developers' Text.; The document's own Num, Text and List, walked.; The document's num, DraftText, Text.; The document's Of: what its walk's loops share.
-/
import Derived.BigRegion
import Derived.Deep.OwnRows
import Derived.Deep.RegionWith
import Derived.Laws.IdiomStrings
import Derived.Lib.AppendStr
import Derived.Lib.Builder
import Derived.Lib.UnsafeStr
import Derived.Lib.Walk
import Derived.Shelf.Small.Bits
import Derived.Shelf.Strconv.Itoa0
import Derived.Shelf.Strings.Builder1
import Derived.Shelf.Strings.BuilderF
import Derived.Shelf.Strings.BuilderK
import Derived.StillTailTactics
import Derived.Test.YtnbldbbbibpobaaGreatDoorProg
import Derived.Test.YtnbldbbbibpobaaGreatDoorJ01
import Derived.Test.YtnbldbbbibpobaaGreatDoorJ02
import Derived.Test.YtnbldbbbibpobaaGreatDoorJ04
import Derived.Test.YtnbldbbbibpobaaGreatDoorJ12
namespace Go.Proofs
open Go.Shelf Go.RowKit
def Tryz.lays125_ren:Go.Shelf.Ren:=⟨fun | 125=>94 | 128=>123 | 129=>124 | n=>n,fun | 46=>39 | 3=>3 | 51=>143 | 53=>142 | 4=>4 | 5=>5 | 9=>9 | n=>n,fun | n=>n⟩
theorem Tryz.lays125:Go.Proofs.Lays.n125 Tryz.prog Tryz.lays125_ren:={
 mixed:=by kernel_rfl
 f125:=Tryz.func94.trans (congrArg some (by kernel_rfl))
 f128:=Tryz.func123.trans (congrArg some (by kernel_rfl))
 f129:=Tryz.func124.trans (congrArg some (by kernel_rfl))
 t3:=Tryz.underlying3
 a3:=Tryz.isAgg3
 z3:=Tryz.sizeOf3
 v3:=Tryz.zeroValue3
 t4:=Tryz.underlying4
 a4:=Tryz.isAgg4
 z4:=Tryz.sizeOf4
 v4:=Tryz.zeroValue4
 t5:=Tryz.underlying5
 a5:=Tryz.isAgg5
 z5:=Tryz.sizeOf5
 v5:=Tryz.zeroValue5
 t9:=Tryz.underlying9
 a9:=Tryz.isAgg9
 z9:=Tryz.sizeOf9
 v9:=Tryz.zeroValue9
 t46:=Tryz.underlying39
 a46:=Tryz.isAgg39
 z46:=Tryz.sizeOf39
 v46:=Tryz.zeroValue39
 t51:=Tryz.underlying143
 a51:=Tryz.isAgg143
 z51:=Tryz.sizeOf143
 v51:=Tryz.zeroValue143
 t53:=Tryz.underlying142
 a53:=Tryz.isAgg142
 z53:=Tryz.sizeOf142
 v53:=Tryz.zeroValue142 }
theorem Tryz.bits_Len (x:Int) (w:World) (h0:0 ≤ x) (h1:x ≤ 18446744073709551615) :
 Calls Tryz.prog 94 #[.int .u64 x] w fun e w'=>e = .returned (.int .i64 (Lib.bitLen x.toNat)) ∧ w' = w:=Any.bits_Len Tryz.lays125 x w h0 h1
end Go.Proofs
set_option maxRecDepth 100000
set_option maxHeartbeats 4000000
namespace Go.Proofs.YtnbldbbbibpobaaGreatDoor
open Go.RowKit
theorem Tryz.infoByte:(Tryz.prog.info? 5).map (fun i=>(i.zero,i.size,i.bytes)) = some (some (.int .u8 0),1,1):=by kernel_rfl
def za5 (n L k j:Nat):Value:=if j = 0 then .int .u8 L else if L - k < j then .int .u8 ((n:Int) / 2 ^ (8 * (L - j)) % 256) else .int .u8 0
theorem zm9 {n L:Nat} (hL:(dig n).length = L) (h8:L ≤ 8) (j:Nat) (hj:j < (z35 n).length):za5 n L L j = .int .u8 ((z35 n)[j].toNat:Int):=by
 unfold za5
 cases j with
 | zero =>
   rw [if_pos rfl]
   have:(z35 n)[0].toNat = L:=by simp only [z35,List.getElem_cons_zero,hL];simp;omega
   rw [this]
 | succ j =>
   have hj2:j < (dig n).length:=by rw [z6a] at hj;omega
   rw [if_neg (by omega),if_pos (by omega)]
   have e:(z35 n)[j + 1].toNat = n / 256 ^ (L - (j + 1)) % 256:=by
    simp only [z35,List.getElem_cons_succ]
    rw [dig_get n j hj2,hL,show L - 1 - j = L - (j + 1) by omega]
   rw [e,show (256:Nat) = 2 ^ 8 by decide,← Nat.pow_mul]
   simp
theorem zhd {n L k:Nat} (hk:k < L) (i:Nat) :
 (fun j=>if j = L - k then Value.int .u8 ((n:Int) / 2 ^ (8 * k) % 256) else za5 n L k j) i = za5 n L (k + 1) i:=by
 unfold za5
 by_cases e:i = L - k
 ·subst e
  rw [if_neg (by omega),if_pos (by omega),show L - (L - k) = k by omega]
  simp
 ·simp only [e,if_false]
  by_cases e0:i = 0
  ·simp [e0]
  ·simp only [e0,if_false]
   by_cases e1:L - k < i
   ·rw [if_pos e1,if_pos (by omega)]
   ·rw [if_neg e1,if_neg (by omega)]
theorem zha (n:Nat) (w:World) (hn:n < 9223372036854775808) :
 Calls Tryz.prog 97 #[.int .i64 n] w fun e w'=>e = .returned (.string ⟨(z35 n).toArray⟩) ∧ Below w.heap.size w w':=by
 have b1:=zkf hn
 have b2:((Lib.bitLen n:Int) + 7) / 8 = ((dig n).length:Int):=by have:=zja hn;omega
 have h8:=z6w hn
 have hD:=Lib.hid (rfl:dig n = dig n)
 generalize hL:(dig n).length = L at b2 h8
 have HL:=Lib.hid hL
 clear hL hD
 have hmk:=run_make_row' (P:=Tryz.prog) 121 5 (.int .u8 0) 1 Tryz.underlying121 Tryz.infoByte rfl .i64 .i64 (1 + L) (by omega) (by omega)
 simp only [Int.natCast_add,Int.natCast_one] at hmk
 have hrow:=World.rowIs_made w (.int .u8 0) (1 + L) 5
 have hrow2:=hrow.set 0 (.int .u8 (L:Int))
 have c0:=hrow.cell (i:=0) (by omega)
 have f0:=hrow.frozen 0
 have HR:=Lib.hid hrow2
 clear hrow hrow2
 go_enter Tryz.func97,Tryz.ntmps97
 go_wp2_with (go_at_call 94;refine (Tryz.bits_Len _ _ (by omega) (by omega)).mono ?_;rintro e w' ⟨rfl,rfl⟩)
 rw [b2]
 have B2:=Lib.hid b2
 clear b2 c0 f0 HR hmk
 go_loopw [21] (fun i wr=>∃ k:Nat,k ≤ L ∧ i = .int .i64 k ∧ wr.rowIs w'.heap.size 5 (1 + L) (za5 n L k) ∧ Below w'.heap.size w' wr) (fun i _=>L - (intOf i).toNat)
 case atStart =>
  refine ⟨0,Nat.zero_le _,rfl,?_,(Below.refl _ _).alloc (Nat.le_refl _) _⟩
  have h:=World.rowIs_alloc w' ((madeCells #[Value.int IntKind.u8 0] (1 + L)).setIfInBounds 0 (Value.int IntKind.u8 ↑L)) 5 (za5 n L 0) (by
   intro i hi
   simp only [Array.size_setIfInBounds,size_madeCells] at hi
   rw [Array.getElem?_setIfInBounds]
   unfold za5
   by_cases e:i = 0
   ·subst e;simp [size_madeCells]
   ·rw [if_neg (by omega),if_neg e,if_neg (by omega)]
    simp [madeCells,hi,Nat.mod_one])
  simpa [size_madeCells] using h
 case round =>
  obtain ⟨k,hk,rfl,hrow,hbel⟩:=hrel
  by_cases hlt:k < L
  ·have c0:=hrow.cell (i:=L - k) (by omega)
   have f0:=hrow.frozen (L - k)
   have HR:=Lib.hid hrow
   have HB:=Lib.hid hbel
   clear hrow hbel
   go_wp2
   refine ⟨⟨k + 1,by omega,by go_num,?_,HB.out.setCell (by simp) _⟩,by simp [intOf];omega⟩
   exact (HR.out.set (L - k) _).congr (fun i _=>zhd hlt i)
  ·have hkL:k = L:=by omega
   subst hkL
   have hconv:(convert 121 9 (.slice (some ⟨w'.heap.size,0,none⟩) (1 + k) (1 + k))).run Tryz.prog wr = .ok (.string ⟨(z35 n).toArray⟩) wr:=by
    have hlen:(z35 n).length = 1 + k:=by rw [z6a,HL.out]
    rw [← hlen]
    refine run_convert_bytes_back wr _ _ 5 ⟨w'.heap.size,0,none⟩ _ (z35 n) Tryz.underlying121 Tryz.underlying5 Tryz.underlying9 ?_
    intro j hj
    have:=hrow.cell (i:=j) (by omega)
    rw [zm9 HL.out h8 j hj] at this
    rw [show Addr.add ⟨w'.heap.size,0,none⟩ j = ⟨w'.heap.size,j,none⟩ by simp only [Addr.add];split <;> simp_all]
    exact this
   have HB:=Lib.hid hbel
   clear hrow hbel
   go_wp2
   go_ret
   exact ⟨rfl,HB.out⟩
theorem num_neg (n:Int) (w:World) (hn:n < 0) (hlo:-9223372036854775808 ≤ n) :
 Calls Tryz.prog 97 #[.int .i64 n] w fun e w'=>e = .returned (.string ⟨#[0]⟩) ∧ Below w.heap.size w w':=by
 have b0:Lib.bitLen 0 = 0:=by decide
 have hmax:max n 0 = 0:=by omega
 have hmk:∀ w:World,(Instr.makeSlice 121 (.int .i64 1) (.int .i64 1)).run Tryz.prog w = .ok (.slice (some ⟨w.heap.size,0,none⟩) 1 1) (w.alloc (.cells #[.int .u8 0] 5)):=fun w=>by kernel_rfl
 have hconv:(convert 121 9 (.slice (some ⟨w.heap.size,0,none⟩) 1 1)).run Tryz.prog (w.alloc (.cells #[.int .u8 0] 5)) = .ok (.string ⟨#[0]⟩) (w.alloc (.cells #[.int .u8 0] 5)):=by
  refine run_convert_bytes_back _ _ _ 5 ⟨w.heap.size,0,none⟩ _ [0] Tryz.underlying121 Tryz.underlying5 Tryz.underlying9 ?_
  intro j hj
  have:j = 0:=by simpa using hj
  subst this
  simp [Addr.add]
 go_enter Tryz.func97,Tryz.ntmps97
 go_wp2_with (go_at_call 94;refine (Tryz.bits_Len _ _ (by omega) (by omega)).mono ?_;rintro e w' ⟨rfl,rfl⟩)
 refine wp_loop_rounds 1 ?_
 rw [rounds_succ]
 go_wp2
 go_ret
 exact ⟨rfl,(Below.refl _ _).alloc (Nat.le_refl _) _⟩
theorem zho (n:Int) (w:World) (hlo:-9223372036854775808 ≤ n) (hhi:n ≤ 9223372036854775807) :
 Calls Tryz.prog 97 #[.int .i64 n] w fun e w'=>e = .returned (.string ⟨(z35 n.toNat).toArray⟩) ∧ Below w.heap.size w w':=by
 by_cases h:n < 0
 ·have e:z35 n.toNat = [0]:=by rw [show n.toNat = 0 by omega];simp [z35,z7f]
  rw [e]
  exact num_neg n w h hlo
 ·obtain ⟨m,rfl⟩:∃ m:Nat,n = m:=⟨n.toNat,by omega⟩
  exact zha m w (by omega)
end Go.Proofs.YtnbldbbbibpobaaGreatDoor
namespace Go.Proofs
open Go.Shelf Go.RowKit
def Tryz.lays169_ren:Go.Shelf.Ren:=⟨fun | 169=>130 | n=>n,fun | 70=>168 | 9=>9 | 0=>0 | 72=>170 | 37=>121 | 127=>198 | 3=>3 | 5=>5 | n=>n,fun | n=>n⟩
theorem Tryz.lays169:Go.Proofs.Lays.n169 Tryz.prog Tryz.lays169_ren:={
 mixed:=by kernel_rfl
 f169:=Tryz.func130.trans (congrArg some (by kernel_rfl))
 t0:=Tryz.underlying0
 a0:=Tryz.isAgg0
 z0:=Tryz.sizeOf0
 v0:=Tryz.zeroValue0
 t3:=Tryz.underlying3
 a3:=Tryz.isAgg3
 z3:=Tryz.sizeOf3
 v3:=Tryz.zeroValue3
 t9:=Tryz.underlying9
 a9:=Tryz.isAgg9
 z9:=Tryz.sizeOf9
 v9:=Tryz.zeroValue9
 t37:=Tryz.underlying121
 a37:=Tryz.isAgg121
 z37:=Tryz.sizeOf121
 v37:=Tryz.zeroValue121
 t70:=Tryz.underlying168
 a70:=Tryz.isAgg168
 z70:=Tryz.sizeOf168
 v70:=Tryz.zeroValue168
 t72:=Tryz.underlying170
 a72:=Tryz.isAgg170
 z72:=Tryz.sizeOf170
 v72:=Tryz.zeroValue170
 t127:=Tryz.underlying198
 a127:=Tryz.isAgg198
 z127:=Tryz.sizeOf198
 v127:=Tryz.zeroValue198 }
theorem Tryz.Builder_Extra_169:Builder.Extra Tryz.prog Tryz.lays169_ren:={
 sizeBuilder:=by kernel_rfl
 liesBuilder:=by kernel_rfl
 t5:=Tryz.underlying5
 a5:=Tryz.isAgg5
 z5:=Tryz.sizeOf5
 v5:=Tryz.zeroValue5
 infoByte:=by kernel_rfl
 cellsByte:=by kernel_rfl
 sizeByte:=by kernel_rfl
 neB5:=by decide }
theorem Tryz.Builder_String_any (B b:Nat) (l:List UInt8) (w:World) (h:Lib.IsBuilder 170 5 B b (Lib.byteCells l) w) (hBw:B ≤ w.heap.size) :
 Calls Tryz.prog 130 #[.pointer (some ⟨b,0,none⟩)] w fun e w'=>e = .returned (.string ⟨l.toArray⟩) ∧ Below B w w':=Any.Builder_String_any Tryz.lays169 Tryz.Builder_Extra_169 B b l w h hBw
end Go.Proofs
namespace Go.Proofs.YtnbldbbbibpobaaGreatDoor
open Go.RowKit
theorem z91 {T e:TypeId} {B b:Nat} {bs:List Value} {w w':World} (h:Lib.IsBuilder T e B b bs w) (k:Below w.heap.size w w'):Lib.IsBuilder T e B b bs w':=by
 have one:∀ p,Lib.BuilderAt T e B b p bs w → Lib.BuilderAt T e B b p bs w':=by
  intro p hp
  have hlt:=hp.lt
  obtain ⟨hB,v,hb,hown,hne⟩:=hp
  refine ⟨hB,v,(k.block b hlt).trans hb,?_,hne⟩
  exact hown.kept (row:=none) ⟨k.os,k.tape,k.output,k.size,fun i hi _=>k.block i hi⟩ (by
   rcases h:v.ownBlock with _ | g
   ·exact Or.inl rfl
   ·exact Or.inr (by simp))
 rcases h with h | h
 ·exact Or.inl (one _ h)
 ·exact Or.inr (one _ h)
theorem zc6 (b:Nat) (w:World) (h0:w.cell? ⟨b,0,none⟩ = some (.pointer (some ⟨b,0,none⟩))) :
 Calls Tryz.prog 152 #[.pointer (some ⟨b,0,none⟩)] w fun e w'=>e = .returned (.tuple #[]) ∧ w' = w:=by
 obtain ⟨j,hj,_⟩:=Option.map_eq_some_iff.1 Tryz.Builder_Extra_169.sizeBuilder
 go_enter Tryz.func152,Tryz.ntmps152
 go_wp2
 rw [Lib.run_neq_ptr_same w _ Tryz.underlying168 hj]
 go_wp2
 go_end0
 exact ⟨rfl,rfl⟩
theorem zaw (b:Nat) (w:World) (h0:w.cell? ⟨b,0,none⟩ = some (.pointer none)) (hsh:w.shape? b = some (170,2)) (hfz:w.frozen? ⟨b,0,none⟩ = false) :
 Calls Tryz.prog 152 #[.pointer (some ⟨b,0,none⟩)] w fun e w'=>e = .returned (.tuple #[]) ∧ w' = w.setCell ⟨b,0,none⟩ (.pointer (some ⟨b,0,none⟩)):=by
 obtain ⟨j,hj,hjs⟩:=Option.map_eq_some_iff.1 Tryz.Builder_Extra_169.sizeBuilder
 go_enter Tryz.func152,Tryz.ntmps152
 go_wp2
 rw [Lib.run_to_unsafe w ⟨b,0,none⟩ Tryz.underlying168 Tryz.underlying209 hj (by rw [hjs];decide) hsh (Nat.zero_lt_succ 1)]
 simp only [Result.andThen]
 rw [Oper.upon_value]
 go_wp2
 rw [run_callFunc_extern Tryz.func166 (by kernel_rfl) (by kernel_rfl) (by kernel_rfl) (e:=Extern.AbiNoEscape.same) (by kernel_rfl)]
 rw [Lib.run_noEscape]
 simp only [Result.andThen]
 rw [Oper.upon_value]
 go_wp2
 rw [Lib.run_from_unsafe w ⟨b,0,none⟩ Tryz.underlying209 Tryz.underlying168 hj hsh Tryz.Builder_Extra_169.liesBuilder]
 simp only [Result.andThen]
 rw [Oper.upon_value]
 go_wp2
 go_end0
 exact ⟨rfl,rfl⟩
theorem zdt (B b:Nat) (bs:List Value) (w:World) (h:Lib.IsBuilder 170 5 B b bs w) :
 Calls Tryz.prog 152 #[.pointer (some ⟨b,0,none⟩)] w fun e w'=>e = .returned (.tuple #[]) ∧ (Lib.BuilderAt 170 5 B b (.pointer (some ⟨b,0,none⟩)) bs w' ∧ Below B w w'):=by
 rcases h with h | h
 ·refine (zaw b w h.cell0 h.shape h.frozen0).mono ?_
  rintro e w' ⟨rfl,rfl⟩
  exact ⟨rfl,h.used _,(Below.refl B w).setCell (p:=⟨b,0,none⟩) h.1 _⟩
 ·refine (zc6 b w h.cell0).mono ?_
  rintro e w' ⟨rfl,rfl⟩
  exact ⟨rfl,h,Below.refl B _⟩
theorem z54 (B b:Nat) (bs:List Value) (s:ByteArray) (w:World) (h:Lib.IsBuilder 170 5 B b bs w) (hlen:bs.length + s.size ≤ 140737488355328) (hBw:B ≤ w.heap.size) :
 Calls Tryz.prog 129 #[.pointer (some ⟨b,0,none⟩),.string s] w fun e w'=>e = .returned (.tuple #[.int .i64 s.size,.nilIface]) ∧ (Lib.IsBuilder 170 5 B b (bs ++ Lib.strCells s) w' ∧ Below B w w'):=by
 obtain ⟨i0,hi,hz0,hz1,hz2⟩:=info_parts Tryz.Builder_Extra_169.infoByte
 have hi:Tryz.prog.info? 5 = some i0:=hi
 go_enter Tryz.func129,Tryz.ntmps129
 go_wp2_with (go_at_call 152;refine (zdt B b bs _ h).mono ?_)
 rintro e w1 ⟨rfl,h1,hb1⟩
 obtain ⟨hB,v,hbk,hown,hne⟩:=h1
 have c0:w1.cell? ⟨b,0,none⟩ = some (.pointer (some ⟨b,0,none⟩)):=by rw [Lib.cell_of_heap hbk];rfl
 have c1:w1.cell? ⟨b,1,none⟩ = some v:=by rw [Lib.cell_of_heap hbk];rfl
 go_wp2_with (at_builtin;refine Lib.wpList_append_own_string _ rfl _ _ 121 9 rfl B 5 i0 Tryz.underlying121 Tryz.underlying9 hi hz0 hz1 hz2 _ _ _ rfl hown s rfl ?c3 ?c4 ?c5 ?_)
 case c3=>unfold maxLen;omega
 case c4=>omega
 case c5=>have:=hb1.size;omega
 intro v' w2 hown' hgrow _
 have hlt:b < w1.heap.size:=lt_of_block hbk
 have hb2:w2.heap[b]? = some (.cells #[.pointer (some ⟨b,0,none⟩),v] 170 (0,0)):=by
  rw [hgrow.block b hlt (fun e=>hne e.symm)]
  exact hbk
 have d0:w2.cell? ⟨b,0,none⟩ = some (.pointer (some ⟨b,0,none⟩)):=by rw [Lib.cell_of_heap hb2];rfl
 have d1:w2.cell? ⟨b,1,none⟩ = some v:=by rw [Lib.cell_of_heap hb2];rfl
 have f1:w2.frozen? ⟨b,1,none⟩ = false:=Lib.frozen_of_heap hb2 1
 obtain ⟨ao,n',cap,rfl⟩:∃ ao n' cap,v' = .slice ao n' cap:=by
  rcases hown'.2 with ⟨hv,_⟩ | ⟨g,cap,cur,hv,_⟩
  ·exact ⟨_,_,_,hv⟩
  ·exact ⟨_,_,_,hv⟩
 go_wp2
 go_ret2
 refine ⟨rfl,Or.inr ?_,?_⟩
 ·exact Lib.BuilderAt.put (T:=170) (e:=5) hB hb2 (bs':=bs ++ Lib.strCells s) (by simpa [Lib.strCells_length] using hown') (by decide)
 ·exact (hb1.grown hgrow (by have:=hb1.size;omega) (fun k hk=>(hown.lt k hk).1)).setCell (p:=⟨b,1,none⟩) hB _
theorem z5j (l:List UInt8):Lib.strCells ⟨l.toArray⟩ = Lib.byteCells l:=by simp [Lib.strCells,Lib.byteCells]
theorem zd8 (ao:Option Addr) (cap:Nat) (l:List (List UInt8)) (w:World) (h:StrsAt ao l w) (hl:l.length ≤ 9223372036854775807) (hlen:(z38 l).length ≤ 140737488355328) :
 Calls Tryz.prog 96 #[.slice ao l.length cap] w fun e w'=>e = .returned (.string ⟨(z38 l).toArray⟩) ∧ Below w.heap.size w w':=by
 have hfresh:=Lib.fresh_isBuilder 170 5 w
 have HF:=Lib.hid hfresh
 have HS:=Lib.hid h
 clear hfresh h
 go_enter Tryz.func96,Tryz.ntmps96
 go_wp2_with fail
 refine (zha l.length _ (by omega)).mono ?_
 rintro e w1 ⟨rfl,hb1⟩
 have hA:=(Below.refl w.heap.size w).alloc (Nat.le_refl _) (.cells #[Value.pointer none,Value.slice none 0 0] 170)
 have HI1:=Lib.hid (z91 HF.out hb1)
 have HB1:=Lib.hid (hA.trans (hb1.mono (by simp)))
 have hsz1:=hb1.size
 simp at hsz1
 have hlb:=z3z l
 have HL:=Lib.hid hlb
 clear hb1 HF hA
 go_wp2_with fail
 have hnum:=HL.out
 refine (z54 w.heap.size w.heap.size [] _ _ HI1.out (by show _ + (List.toArray _).size ≤ _;simp;omega) (by omega)).mono ?_
 rintro e w2 ⟨rfl,hI2,hb2⟩
 rw [z5j,List.nil_append] at hI2
 have HI2:=Lib.hid hI2
 have HB2:=Lib.hid (HB1.out.trans hb2)
 clear hI2 hb2 HI1 HB1 hsz1 hnum
 go_wp2_with fail
 go_loopw [12] (fun i wr=>∃ q:Nat,q ≤ l.length ∧ i = .int .i64 q ∧ Lib.IsBuilder 170 5 w.heap.size w.heap.size (Lib.byteCells (z35 l.length ++ z1x (l.take q))) wr ∧ Below w.heap.size w wr) (fun i _=>l.length - (intOf i).toNat)
 case atStart=>exact ⟨0,Nat.zero_le _,rfl,by simpa [z1x] using HI2.out,HB2.out⟩
 case round =>
  obtain ⟨q,hq,rfl,hI,hbel⟩:=hrel
  by_cases hlt:q < l.length
  ·have hparts:=z9u l q hlt
   have htl:=z5f l[q]
   have hpos:=numB_pos l[q].length
   have hlist:=HL.out
   have HP:=Lib.hid hparts
   have HT:=Lib.hid htl
   have hcell:∃ b o,ao = some ⟨b,o,none⟩ ∧ wr.cell? ⟨b,o + q,none⟩ = some (.string ⟨l[q].toArray⟩):=by
    rcases HS.out.below hbel with h | ⟨b,o,ha,hb,hc⟩
    ·subst h;simp at hlt
    ·exact ⟨b,o,ha,hc q hlt⟩
   obtain ⟨cb,co,hao,hc⟩:=hcell
   have hlq:l[q].length ≤ 140737488355328:=by omega
   have hsum:(z35 l.length).length + (z1x (l.take q)).length + (z35 l[q].length).length + l[q].length ≤ 140737488355328:=by omega
   have HI:=Lib.hid hI
   have HB:=Lib.hid hbel
   subst hao
   clear hI hbel hparts htl hlist
   go_wp2_with fail
   refine (zha l[q].length _ (by omega)).mono ?_
   rintro e w3 ⟨rfl,hb3⟩
   have HI3:=Lib.hid (z91 HI.out hb3)
   have hsz3:=HB.out.size
   have HB3:=Lib.hid (HB.out.trans (hb3.mono hsz3))
   clear hb3 HI HB hc
   go_wp2_with fail
   refine (z54 w.heap.size w.heap.size _ _ _ HI3.out (by show _ + (List.toArray _).size ≤ _;rw [Lib.byteCells_length];simp;omega) HB3.out.size).mono ?_
   rintro e w4 ⟨rfl,hI4,hb4⟩
   rw [z5j,← Lib.byteCells_append] at hI4
   have HI4:=Lib.hid hI4
   have HB4:=Lib.hid (HB3.out.trans hb4)
   clear hb4 hI4 HI3 HB3 hsz3
   go_wp2_with fail
   refine (z54 w.heap.size w.heap.size _ _ _ HI4.out (by show _ + (List.toArray _).size ≤ _;rw [Lib.byteCells_length];simp;omega) HB4.out.size).mono ?_
   rintro e w5 ⟨rfl,hI5,hb5⟩
   rw [z5j,← Lib.byteCells_append] at hI5
   have HI5:=Lib.hid (show Lib.IsBuilder 170 5 w.heap.size w.heap.size (Lib.byteCells (z35 l.length ++ z1x (l.take (q + 1)))) w5 by rw [z6e l q hlt];simpa [List.append_assoc] using hI5)
   have HB5:=Lib.hid (HB4.out.trans hb5)
   clear hb5 hI5 HI4 HB4
   go_wp2_with fail
   refine ⟨⟨q + 1,by omega,by go_num,HI5.out,HB5.out⟩,by simp [intOf];omega⟩
  ·obtain rfl:q = l.length:=by omega
   rw [List.take_length] at hI
   have HI:=Lib.hid hI
   have HB:=Lib.hid hbel
   clear hI hbel
   go_wp2_with fail
   refine (Tryz.Builder_String_any w.heap.size w.heap.size _ _ HI.out HB.out.size).mono ?_
   rintro e w3 ⟨rfl,hb3⟩
   have HB3:=Lib.hid (HB.out.trans hb3)
   clear hb3 HI HB
   go_wp2_with fail
   go_ret
   exact ⟨rfl,HB3.out⟩
open Go.BigFrame
theorem zal (w:World) (p q r s:List UInt8):StrsAt (some ⟨w.heap.size,0,none⟩) [p,q,r,s] (w.alloc (.cells #[.string ⟨p.toArray⟩,.string ⟨q.toArray⟩,.string ⟨r.toArray⟩,.string ⟨s.toArray⟩] 9)):=by
 refine z1g (B:=w.heap.size) (c:=4) ?_
 exact World.ownsRow_lit (base:=w.heap.size) (e:=9) (size:=1) w #[.string ⟨p.toArray⟩,.string ⟨q.toArray⟩,.string ⟨r.toArray⟩,.string ⟨s.toArray⟩] 4 (Nat.le_refl _) (by unfold maxLen;omega) rfl
theorem zis {P:Program} {src dst e:TypeId} (hs:P.underlying src = some (.slice e)) (he:P.underlying e = some (.int .u8)) (hd:P.underlying dst = some .string) {g o c n:Nat} {l:List Nat} {w:World} (hn:n = l.length) (hl:∀ x ∈ l,x < 256) (h:w.rangeAt g o (z07 .u8 l)) :
 (convert src dst (.slice (some ⟨g,o,none⟩) n c)).run P w = .ok (.string ⟨(txt l).toArray⟩) w:=by
 subst hn
 have h2:=run_convert_bytes_back (P:=P) w src dst e ⟨g,o,none⟩ c (txt l) hs he hd (fun j hj=>by
  rw [z32] at hj
  rw [Addr.add_mid,h j _ (by rw [z07,List.getElem?_map,List.getElem?_eq_getElem hj];rfl)]
  have h1:=hl _ (List.getElem_mem hj)
  simp only [txt,List.getElem_map]
  rw [show (UInt8.ofNat l[j]).toNat = l[j] by simp;omega])
 rw [z32] at h2
 exact h2
theorem zcz {d:DraftN} (h:d.Fit):(z4e d).length ≤ 1200:=zgb (by have:=h.high;omega) h.key h.val h.ref.1
theorem ze6 (d:DraftN) (hd:d.Fit) (w:World) :
 Calls Tryz.prog 99 #[.agg (z0t d)] w fun e w'=>e = .returned (.string ⟨(z4e d).toArray⟩) ∧ Below w.heap.size w w':=by
 have hx:Cells w.heap.size 27 (z0t d) (w.alloc (.cells (z0t d) 27)):=heap_alloc_new w _
 have hb:Below w.heap.size w (w.alloc (.cells (z0t d) 27)):=(Below.refl _ _).alloc (Nat.le_refl _) _
 have HX:=Lib.hid hx
 have HB:=Lib.hid hb
 have HD:=Lib.hid hd
 have HLEN:=Lib.hid (zcz hd)
 clear hx hb hd
 go_enter Tryz.func99,Tryz.ntmps99
 go_upto_region 1 with (fail)
 obtain ⟨w1,hw1⟩:∃ x,x = w.alloc (.cells (z0t d) 27):=⟨_,rfl⟩
 rw [← hw1] at HX HB ⊢
 clear hw1
 obtain ⟨c0,c1,c2,c3⟩:=z4u HX.out
 have hg:=HX.out.lt
 obtain ⟨k,hk⟩:∃ k,d.kind = k:=⟨_,rfl⟩
 have HK:=Shut.mk hk
 rw [hk] at c0
 have HC0:=Lib.hid (fun (w':World) (q:Below w1.heap.size w1 w')=>(q.cell (p:=⟨w.heap.size,0,none⟩) hg).trans c0)
 have HC1:=Lib.hid (fun (w':World) (q:Below w1.heap.size w1 w')=>(q.cell (p:=⟨w.heap.size,1,none⟩) hg).trans c1)
 have HC2:=Lib.hid (fun (w':World) (q:Below w1.heap.size w1 w')=>(q.cell (p:=⟨w.heap.size,2,none⟩) hg).trans c2)
 have HC3:=Lib.hid (fun (w':World) (q:Below w1.heap.size w1 w')=>zis (P:=Tryz.prog) (src:=121) (dst:=9) (c:=32) Tryz.underlying121 Tryz.underlying5 Tryz.underlying9 HD.out.ref.1.symm HD.out.ref.2 (z08 c3 q hg))
 have HN:=Lib.hid (fun w'=>zho k w' (by have:=HD.out.low;rw [hk] at this;exact this) (by have:=HD.out.high;rw [hk] at this;exact this))
 clear c0 c1 c2 c3 hg hk
 refine z0c (fun w'=>Below w1.heap.size w1 w') 10 (by kernel_rfl) (by kernel_rfl) (Below.refl _ _).drew ?_
 simp only [zC,zD,zE,zF]
 repeat (first
  | (go_big_quiet_want;refine z03 3 _ rfl ⟨w.heap.size,0,none⟩ _ rfl HC0.out Tryz.isAgg3 ?_;go_big_quiet_on;simp only [Act.put,zS,zA,zB])
  | (go_big_quiet_want;refine z03 9 _ rfl ⟨w.heap.size,1,none⟩ _ rfl HC1.out Tryz.isAgg9 ?_;go_big_quiet_on;simp only [Act.put,zS,zA,zB])
  | (go_big_quiet_want;refine z03 9 _ rfl ⟨w.heap.size,2,none⟩ _ rfl HC2.out Tryz.isAgg9 ?_;go_big_quiet_on;simp only [Act.put,zS,zA,zB])
  | (go_big_quiet_want;refine zcl 121 9 _ rfl (.slice (some ⟨w.heap.size,3,none⟩) 32 32) _ rfl HC3.out ?_;go_big_quiet_on;simp only [Act.put,zS,zA,zB])
  | go_big_quiet_step ((intro hs';first
   | (go_at_call 97;exact (HN.out _).mono fun e w' h=>⟨h.1,hs'.trans (h.2.mono hs'.size)⟩)
   | rfl)))
 refine wpQuiet_nil ?_
 intro w2 hs2
 have HB2:=Lib.hid (HB.out.trans (hs2.mono HB.out.size))
 clear hs2 HX HB HC0 HC1 HC2 HC3 HN
 go_wp2_with fail
 refine (zd8 (some ⟨w2.heap.size,0,none⟩) 4 [z35 k.toNat,d.key,d.val,txt d.ref] _ (zal w2 _ _ _ _) (by simp) (by have:=HLEN.out;rw [z4e,HK.out] at this;omega)).mono ?_
 rintro e w3 ⟨rfl,hb⟩
 have HB3:=Lib.hid (HB2.out.trans (((Below.refl _ w2).alloc (Nat.le_refl _) _).trans (hb.mono (by simp)) |>.mono HB2.out.size))
 clear hb HB2
 go_wp2_with fail
 go_ret
 exact ⟨by rw [z4e,HK.out];rfl,HB3.out⟩
def z4k (L:List (List Nat)) (k:Nat):List Nat:=(L.take k).flatten
theorem zga {L:List (List Nat)} (h:∀ p ∈ L,IdOk p) {k:Nat} (hk:k ≤ L.length):(z4k L k).length = 32 * k:=by
 rw [z4k,z4i (K:=32) (fun x hx=>(h x (List.mem_of_mem_take hx)).1),List.length_take]
 omega
theorem joinN_lt {L:List (List Nat)} (h:∀ p ∈ L,IdOk p) (k:Nat):∀ y ∈ z4k L k,y < 256:=fun y hy=>by
 obtain ⟨p,hp,hyp⟩:=List.mem_flatten.1 hy
 exact (h p (List.mem_of_mem_take hp)).2 y hyp
theorem zcj {L:List (List Nat)} {k:Nat} (hk:k < L.length):z4k L (k + 1) = z4k L k ++ L.getD k []:=by
 rw [z4k,z4k,List.take_succ_eq_append_getElem hk,List.flatten_append,List.getD_eq_getElem?_getD,List.getElem?_eq_getElem hk]
 simp
theorem zgf (L:List (List Nat)):txt (z4k L L.length) = z4f L:=by
 rw [z4k,List.take_length,z4f,txt,List.map_flatten]
 rfl
theorem zk1 (L:List (List Nat)) (pa:Option Addr) (pc:Nat) (w:World) (hL:∀ p ∈ L,IdOk p) (hp:IAt pa L w) (hn:L.length ≤ 1000000) :
 Calls Tryz.prog 98 #[.slice pa L.length pc] w fun e w'=>e = .returned (.string ⟨(z4f L).toArray⟩) ∧ Below w.heap.size w w':=by
 obtain ⟨i0,hi2,hz0,hz1,hz2⟩:=info_parts Tryz.infoU8
 have HY:=Lib.hid hi2
 have HY0:=Lib.hid hz0
 have HY1:=Lib.hid hz1
 have HY2:=Lib.hid hz2
 have HP:=Lib.hid hp
 have HO:=Lib.hid hL
 obtain ⟨n,hnn⟩:∃ n,L.length = n:=⟨_,rfl⟩
 have HNN:=Shut.mk hnn
 rw [hnn] at hn ⊢
 clear hnn hp hL hi2 hz0 hz1 hz2
 have HR0:=Lib.hid (show ∀ k,k ≤ n → (z4k L k).length = 32 * k from fun k hk=>zga HO.out (by rw [HNN.out];exact hk))
 go_enter Tryz.func98,Tryz.ntmps98
 go_wp2_with (at_make;refine wpList_make_own _ rfl _ _ 121 rfl w.heap.size 5 i0 (.int .u8 0) 1 Tryz.underlying121 HY.out HY0.out HY1.out .i64 .i64 _ (32 * n) rfl rfl (by first | rfl | omega | (go_num)) (by rw [HY2.out];omega) (by unfold maxLen;omega) (Nat.le_refl _) ?_)
 intro w2 ho hgrow
 have hb2:Below w.heap.size w w2:=(Below.refl w.heap.size w).grown hgrow (Nat.le_refl _) (by intro g hg;cases hg)
 have HOW:=Lib.hid (show OwnN w.heap.size 5 .u8 (.slice (some ⟨w.heap.size,0,none⟩) 0 (32 * n)) [] w2 from ho)
 have HB2:=Lib.hid hb2
 clear ho hgrow hb2
 go_wp2_with fail
 go_loopw [3,12] (fun v i wr=>∃ k:Nat,k ≤ n ∧ i = .int .i64 k ∧ OwnN w.heap.size 5 .u8 v (z4k L k) wr ∧ Below w.heap.size w wr) (fun _ i _=>n - (intOf i).toNat)
 case atStart=>exact ⟨0,Nat.zero_le _,rfl,HOW.out,HB2.out⟩
 case round =>
  clear HOW HB2
  obtain ⟨k,hk,rfl,ho,hb⟩:=hrel
  obtain ⟨ao,cp,rfl⟩:=ho.form
  have HLK:=Shut.mk (HR0.out k hk)
  have HOW:=Lib.hid ho
  have HB:=Lib.hid hb
  have HW:=Lib.hid hb.size
  have HPW:=Lib.hid (HP.out.below hb)
  clear ho hb
  by_cases hlt:k < n
  ·obtain ⟨b,ob,rfl,hbl⟩:=HPW.out.some (by rw [HNN.out];omega)
   have g1:=HPW.out.get (i:=k) (by rw [HNN.out];omega)
   have i1:=Ids.getD HO.out (i:=k) (by rw [HNN.out];omega)
   have HNX:=Shut.mk (show z4k L (k + 1) = z4k L k ++ L.getD k [] from zcj (by rw [HNN.out];exact hlt))
   obtain ⟨x,hx⟩:∃ x,L.getD k [] = x:=⟨_,rfl⟩
   obtain ⟨R,hR⟩:∃ R,z4k L k = R:=⟨_,rfl⟩
   rw [hx] at g1 i1 HNX
   rw [hR] at HOW HLK HNX ⊢
   have HG1:=Lib.hid g1
   have HS1:=Lib.hid (show (Tryz.prog.info? 25).map (·.size) = some x.length by rw [i1.1];exact Tryz.sizeI)
   have HL2:=Lib.hid (show (List.replicate 32 0).length = x.length by rw [i1.1];rfl)
   have HXL:=Shut.mk i1.1
   have HAP:=Lib.hid (show ∀ g,(Value.slice ao R.length cp).ownBlock = some g → wr.heap.size ≠ g from fun g hg e=>by have:=(World.ownsRow.lt HOW.out g hg).2;omega)
   have HOA:=Lib.hid (fun o=>HOW.out.alloc o)
   clear hx hR g1 i1
   go_wp2_with (first
    | (refine z0a rfl 25 _ rfl b (ob + k * 32) x _ rfl HG1.out Tryz.underlying25 rfl HS1.out ?_)
    | (refine z06 rfl 25 _ _ rfl rfl wr.heap.size .u8 (List.replicate 32 0) x 25 rfl rfl (heap_alloc_new wr _) HS1.out HL2.out ?_))
   intro w5 hc' hb'
   have HX5:=Lib.hid (show Blk wr.heap.size 25 .u8 x w5 from hc'.out)
   have HB5:=Lib.hid (show Below w.heap.size w w5 from But.toBelow (HB.out.alloc HW.out _) hb'.out HW.out (Nat.le_trans HW.out (by rw [World.size_alloc];exact Nat.le_succ _)))
   have HO5:=Lib.hid ((HOA.out _).but hb'.out HAP.out)
   have HLA:=Lib.hid (show R.length + x.length ≤ maxLen by rw [HLK.out,HXL.out];unfold maxLen;omega)
   have HLB:=Lib.hid (show (R.length + x.length) * 1 ≤ 140737488355328 by rw [HLK.out,HXL.out];omega)
   clear hc' hb' HOW HB HOA HL2
   go_wp2_with (refine z8d rfl (.tmp 16) (.tmp 17) 121 5 rfl w.heap.size .u8 1 Tryz.underlying121 Tryz.infoU8 (.slice ao R.length cp) R x ⟨wr.heap.size,0,none⟩ 32 32 HXL.out.symm rfl HO5.out rfl (blk_news HX5.out) HLA.out HLB.out HB5.out.size ?_)
   intro v6 w6 ho6 hb6
   have HB6:=Lib.hid (show Below w.heap.size w w6 from HB5.out.trans hb6.out)
   clear hb6
   go_wp2_with fail
   exact ⟨⟨k + 1,by omega,by go_num,by rw [HNX.out];exact ho6.out,HB6.out⟩,by simp [intOf];omega⟩
  ·obtain rfl:k = n:=by omega
   have hat:=HOW.out.at
   have hconv:=fun ql=>conv_in (P:=Tryz.prog) (src:=121) (dst:=9) (c:=cp) (ao:=ao) (b:=z4f L) (w:=ql) Tryz.underlying121 Tryz.underlying5 Tryz.underlying9
   have e:z15 (z4f L) = z4k L k:=by rw [← zgf,HNN.out,z4n (joinN_lt HO.out k)]
   have e2:(z4f L).length = (z4k L k).length:=by rw [← e,z10]
   rw [e,e2] at hconv
   have hconv:=hconv wr hat
   obtain ⟨R,hR⟩:∃ R,z4k L k = R:=⟨_,rfl⟩
   rw [hR] at hconv ⊢
   clear hat e e2 hR
   go_wp2_with fail
   go_ret
   exact ⟨rfl,HB.out⟩
theorem zhs {o:OpN} (h:o.Fit):(opB o).length ≤ 4000:=opB_le (by have:=h.d.high;omega) (by have:=h.ahigh;omega) (by have:=h.dhigh;omega) h.d.key h.d.val h.ok h.many
theorem zl3 (o:OpN) (pa:Option Addr) (pc:Nat) (w:World) (ho:o.Fit) (hp:IAt pa o.preds w) :
 Calls Tryz.prog 77 #[.agg (opV o pa pc)] w fun e w'=>e = .returned (.string ⟨(opB o).toArray⟩) ∧ Below w.heap.size w w':=by
 have hx:Cells w.heap.size 38 (opV o pa pc) (w.alloc (.cells (opV o pa pc) 38)):=heap_alloc_new w _
 have hb:Below w.heap.size w (w.alloc (.cells (opV o pa pc) 38)):=(Below.refl _ _).alloc (Nat.le_refl _) _
 have HX:=Lib.hid hx
 have HB:=Lib.hid hb
 have HP:=Lib.hid (hp.below hb)
 have HD:=Lib.hid ho
 have HLEN:=Lib.hid (zhs ho)
 clear hx hb ho hp
 go_enter Tryz.func77,Tryz.ntmps77
 go_upto_region 1 with (fail)
 obtain ⟨w1,hw1⟩:∃ x,x = w.alloc (.cells (opV o pa pc) 38):=⟨_,rfl⟩
 rw [← hw1] at HX HB HP ⊢
 clear hw1
 obtain ⟨c0,c35,c36,c37⟩:=z0j HD.out.ok.ref.1 HX.out
 have hg:=HX.out.lt
 have HSD:=Lib.hid (show (Tryz.prog.info? 27).map (·.size) = some (z1h o.d).length by rw [z0u HD.out.ok.ref.1];exact Tryz.sizeD)
 have HJ:=Lib.hid (fun w' (q:Below w1.heap.size w1 w')=>zk1 o.preds pa pc w' HD.out.preds (HP.out.below q) (by have:=HD.out.many;omega))
 have HT:=Lib.hid (fun w'=>ze6 o.d HD.out.d w')
 obtain ⟨A,hA⟩:∃ x,o.author = x:=⟨_,rfl⟩
 obtain ⟨D,hD⟩:∃ x,o.depth = x:=⟨_,rfl⟩
 obtain ⟨n,hn⟩:∃ x,o.preds.length = x:=⟨_,rfl⟩
 have HE:=Shut.mk (show opB o = z38 [z35 A.toNat,z35 D.toNat,z4f o.preds,z4e o.d] by rw [opB,hA,hD])
 rw [hA] at c35
 rw [hD] at c36
 rw [hn] at c37 HJ
 have HNA:=Lib.hid (fun w'=>zho A w' (by have:=HD.out.alow;rw [hA] at this;exact this) (by have:=HD.out.ahigh;rw [hA] at this;exact this))
 have HND:=Lib.hid (fun w'=>zho D w' (by have:=HD.out.dlow;rw [hD] at this;exact this) (by have:=HD.out.dhigh;rw [hD] at this;exact this))
 have HC0:=Lib.hid (fun (w':World) (q:Below w1.heap.size w1 w')=>show w'.rangeAt w.heap.size 0 (z1h o.d) from z08 c0 q hg)
 have HC5:=Lib.hid (fun (w':World) (q:Below w1.heap.size w1 w')=>(q.cell (p:=⟨w.heap.size,35,none⟩) hg).trans c35)
 have HC6:=Lib.hid (fun (w':World) (q:Below w1.heap.size w1 w')=>(q.cell (p:=⟨w.heap.size,36,none⟩) hg).trans c36)
 have HC7:=Lib.hid (fun (w':World) (q:Below w1.heap.size w1 w')=>(q.cell (p:=⟨w.heap.size,37,none⟩) hg).trans c37)
 obtain ⟨PB,hPB⟩:∃ x,z4f o.preds = x:=⟨_,rfl⟩
 obtain ⟨DB,hDB⟩:∃ x,z4e o.d = x:=⟨_,rfl⟩
 rw [hPB] at HJ HE
 rw [hDB] at HT HE
 have HLN:=Lib.hid (show (z38 [z35 A.toNat,z35 D.toNat,PB,DB]).length ≤ 4000 by rw [← HE.out];exact HLEN.out)
 clear c0 c35 c36 c37 hg hA hD hn hPB hDB HX HLEN
 refine z0c (fun w'=>Below w1.heap.size w1 w') 12 (by kernel_rfl) (by kernel_rfl) (Below.refl _ _).drew ?_
 simp only [zC,zD,zE,zF]
 repeat (first
  | (go_big_quiet_want;refine z03 3 _ rfl ⟨w.heap.size,35,none⟩ _ rfl HC5.out Tryz.isAgg3 ?_;go_big_quiet_on;simp only [Act.put,zS,zA,zB])
  | (go_big_quiet_want;refine z03 3 _ rfl ⟨w.heap.size,36,none⟩ _ rfl HC6.out Tryz.isAgg3 ?_;go_big_quiet_on;simp only [Act.put,zS,zA,zB])
  | (go_big_quiet_want;refine z03 34 _ rfl ⟨w.heap.size,37,none⟩ _ rfl HC7.out Tryz.isAgg34 ?_;go_big_quiet_on;simp only [Act.put,zS,zA,zB])
  | (go_big_quiet_want;refine z14 27 _ rfl w.heap.size 0 (z1h o.d) _ rfl HC0.out Tryz.underlying27 rfl HSD.out ?_;go_big_quiet_on;simp only [Act.put,zS,zA,zB])
  | go_big_quiet_step ((intro hs';first
   | (go_at_call_of 97 (Value.int .i64 A);exact (HNA.out _).mono fun e w' h=>⟨h.1,hs'.trans (h.2.mono hs'.size)⟩)
   | (go_at_call_of 97 (Value.int .i64 D);exact (HND.out _).mono fun e w' h=>⟨h.1,hs'.trans (h.2.mono hs'.size)⟩)
   | (go_at_call 98;exact (HJ.out _ hs').mono fun e w' h=>⟨h.1,hs'.trans (h.2.mono hs'.size)⟩)
   | (go_at_call 99;exact (HT.out _).mono fun e w' h=>⟨h.1,hs'.trans (h.2.mono hs'.size)⟩)
   | rfl)))
 refine wpQuiet_nil ?_
 intro w2 hs2
 have HB2:=Lib.hid (HB.out.trans (hs2.mono HB.out.size))
 clear hs2 HB HC0 HC5 HC6 HC7 HNA HND HJ HT
 go_wp2_with fail
 refine (zd8 (some ⟨w2.heap.size,0,none⟩) 4 [z35 A.toNat,z35 D.toNat,PB,DB] _ (zal w2 _ _ _ _) (by simp) (by have:=HLN.out;omega)).mono ?_
 rintro e w3 ⟨rfl,hb⟩
 have HB3:=Lib.hid (HB2.out.trans (((Below.refl _ w2).alloc (Nat.le_refl _) _).trans (hb.mono (by simp)) |>.mono HB2.out.size))
 clear hb HB2
 go_wp2_with fail
 go_ret
 exact ⟨by rw [HE.out];rfl,HB3.out⟩
end Go.Proofs.YtnbldbbbibpobaaGreatDoor
namespace Go.Proofs.YtnbldbbbibpobaaGreatDoor
open Go.RowKit
theorem conv1 (w:World) (d:UInt8):(convert 121 9 (.slice (some ⟨w.heap.size,0,none⟩) 1 1)).run Tryz.prog (w.alloc (.cells #[.int .u8 (d.toNat:Int)] 5)) = .ok (.string ⟨#[d]⟩) (w.alloc (.cells #[.int .u8 (d.toNat:Int)] 5)):=by
 refine run_convert_bytes_back _ _ _ 5 ⟨w.heap.size,0,none⟩ _ [d] Tryz.underlying121 Tryz.underlying5 Tryz.underlying9 ?_
 intro j hj
 have:j = 0:=by simpa using hj
 subst this
 simp [Addr.add]
theorem ziv (d:UInt8) (r:List UInt8):(({ data:=#[d] }:ByteArray) ++ { data:=r.toArray }) = { data:=(d :: r).toArray }:=by
 apply ByteArray.ext;rw [ByteArray.data_append];simp
theorem zd3 (m:Nat):((UInt8.ofNat (m % 256)).toNat:Int) = (m:Int) % 256:=by
 rw [zb2];omega
theorem z60 (n:Nat) (w:World) (hn:n < 9223372036854775808) :
 Calls Tryz.prog 109 #[.int .i64 n] w fun e w'=>e = .returned (.string ⟨(z35 n).toArray⟩) ∧ Below w.heap.size w w':=by
 have h8:=z6w hn
 go_enter Tryz.func109,Tryz.ntmps109
 go_wp2_with fail
 go_loopw [0,3,4] (fun a s k wr=>∃ (m:Nat) (r:List UInt8),m < 9223372036854775808 ∧ dig m ++ r = dig n ∧ a = .int .i64 m ∧ s = .string ⟨r.toArray⟩ ∧ k = .int .i64 r.length ∧ Below w.heap.size w wr) (fun a _ _ _=>(intOf a).toNat)
 case atStart=>exact ⟨n,[],hn,by simp,rfl,rfl,rfl,Below.refl _ _⟩
 case round =>
  obtain ⟨m,r,hm,hd,rfl,rfl,rfl,hbel⟩:=hrel
  have hr:r.length ≤ 8:=by have:=congrArg List.length hd;simp at this;omega
  have HD:=Lib.hid hd
  have HB:=Lib.hid hbel
  clear hd hbel
  by_cases h0:0 < m
  ·have hconv:=conv1 wr (UInt8.ofNat (m % 256))
   rw [zd3] at hconv
   have hcat:=ziv (UInt8.ofNat (m % 256)) r
   go_wp2_with fail
   refine ⟨⟨m / 256,UInt8.ofNat (m % 256) :: r,by omega,?_,by go_num,rfl,by go_num,HB.out.alloc HB.out.size _⟩,by simp [intOf];omega⟩
   rw [← HD.out,zbo (n:=m) (by omega),List.append_assoc];rfl
  ·have e0:m = 0:=by omega
   subst e0
   have hconv:=conv1 wr (UInt8.ofNat r.length)
   rw [show ((UInt8.ofNat r.length).toNat:Int) = (r.length:Int) by simp;omega] at hconv
   have hcat:=ziv (UInt8.ofNat r.length) r
   go_wp2_with fail
   go_ret
   refine ⟨?_,HB.out.alloc HB.out.size _⟩
   have e:r = dig n:=by have:=HD.out;rwa [z7f,List.nil_append] at this
   rw [z35,← e];rfl
theorem zfp (s:List UInt8) (w:World) (hs:s.length ≤ 9223372036854775000) :
 Calls Tryz.prog 110 #[.string ⟨s.toArray⟩] w fun e w'=>e = .returned (.string ⟨(z6q s).toArray⟩) ∧ Below w.heap.size w w':=by
 have hcat:(({ data:=(z35 s.length).toArray }:ByteArray) ++ { data:=s.toArray }) = { data:=(z6q s).toArray }:=by
  apply ByteArray.ext;rw [ByteArray.data_append];simp [z6q]
 go_enter Tryz.func110,Tryz.ntmps110
 go_wp2_with fail
 refine (z60 s.length _ (by omega)).mono ?_
 rintro e w1 ⟨rfl,hb⟩
 have HB:=Lib.hid hb
 have hn:=z61 (n:=s.length) (by omega)
 clear hb
 go_wp2_with fail
 go_ret
 exact ⟨rfl,HB.out⟩
theorem z6x (ao:Option Addr) (cap:Nat) (l:List (List UInt8)) (w:World) (h:StrsAt ao l w) (hl:l.length ≤ 9223372036854775807) (hlen:(z38 l).length ≤ 9223372036854775000) :
 Calls Tryz.prog 88 #[.slice ao l.length cap] w fun e w'=>e = .returned (.string ⟨(z38 l).toArray⟩) ∧ Below w.heap.size w w':=by
 have HS:=Lib.hid h
 have hlb:=z3z l
 have HL:=Lib.hid hlb
 clear h hlb
 go_enter Tryz.func88,Tryz.ntmps88
 go_wp2_with fail
 refine (z60 l.length _ (by omega)).mono ?_
 rintro e w1 ⟨rfl,hb1⟩
 have HB1:=Lib.hid hb1
 clear hb1
 go_wp2_with fail
 go_loopw [3,11] (fun s i wr=>∃ q:Nat,q ≤ l.length ∧ i = .int .i64 q ∧ s = .string ⟨(z35 l.length ++ z1x (l.take q)).toArray⟩ ∧ Below w.heap.size w wr) (fun _ i _=>l.length - (intOf i).toNat)
 case atStart=>exact ⟨0,Nat.zero_le _,rfl,by simp [z1x],HB1.out⟩
 case round =>
  obtain ⟨q,hq,rfl,rfl,hbel⟩:=hrel
  by_cases hlt:q < l.length
  ·have hparts:=z9u l q hlt
   have hlist:=HL.out
   have hcell:∃ b o,ao = some ⟨b,o,none⟩ ∧ wr.cell? ⟨b,o + q,none⟩ = some (.string ⟨l[q].toArray⟩):=by
    rcases HS.out.below hbel with h | ⟨b,o,ha,hb,hc⟩
    ·subst h;simp at hlt
    ·exact ⟨b,o,ha,hc q hlt⟩
   obtain ⟨cb,co,hao,hc⟩:=hcell
   have htl:=z5f l[q]
   have hlq:l[q].length ≤ 9223372036854775000:=by omega
   have hsum:(z35 l.length).length + (z1x (l.take q)).length + (z6q l[q]).length ≤ 9223372036854775000:=by omega
   have hcat:(({ data:=(z35 l.length ++ z1x (l.take q)).toArray }:ByteArray) ++ { data:=(z6q l[q]).toArray }) = { data:=(z35 l.length ++ z1x (l.take (q + 1))).toArray }:=by
    apply ByteArray.ext;rw [ByteArray.data_append,z6e l q hlt];simp [z6q,List.append_assoc]
   have HB:=Lib.hid hbel
   subst hao
   clear hbel hparts htl hlist
   go_wp2_with fail
   refine (zfp l[q] _ hlq).mono ?_
   rintro e w3 ⟨rfl,hb3⟩
   have HB3:=Lib.hid (HB.out.trans (hb3.mono HB.out.size))
   clear hb3 HB hc
   go_wp2_with fail
   exact ⟨⟨q + 1,by omega,by go_num,rfl,HB3.out⟩,by simp [intOf];omega⟩
  ·obtain rfl:q = l.length:=by omega
   have HB:=Lib.hid hbel
   clear hbel
   go_wp2_with fail
   go_ret
   exact ⟨by rw [List.take_length];rfl,HB.out⟩
open Go.BigFrame
theorem zdv (n:Int) (w:World) (h2:n ≤ 9223372036854775807) :
 Calls Tryz.prog 89 #[.int .i64 n] w fun e w'=>e = .returned (.string ⟨(z35 n.toNat).toArray⟩) ∧ Below w.heap.size w w':=by
 by_cases h0:n < 0
 ·have HN:=Lib.hid (z60 0 w (by decide))
  have HE:=Shut.mk (show n.toNat = 0 by omega)
  go_enter Tryz.func89,Tryz.ntmps89
  go_wp2_with fail
  refine HN.out.mono ?_
  rintro e w1 ⟨rfl,hb⟩
  have HB:=Lib.hid hb
  clear hb
  go_wp2_with fail
  go_ret
  exact ⟨by rw [HE.out];rfl,HB.out⟩
 ·obtain ⟨m,rfl⟩:=Int.eq_ofNat_of_zero_le (show 0 ≤ n by omega)
  have HN:=Lib.hid (z60 m w (by omega))
  have hnl:¬ (m:Int) < 0:=h0
  go_enter Tryz.func89,Tryz.ntmps89
  go_wp2_with fail
  refine HN.out.mono ?_
  rintro e w1 ⟨rfl,hb⟩
  have HB:=Lib.hid hb
  clear hb
  go_wp2_with fail
  go_ret
  exact ⟨by rw [Int.toNat_natCast];rfl,HB.out⟩
theorem zdb (d:DraftN) (hd:d.Fit) (w:World) :
 Calls Tryz.prog 90 #[.agg (z0t d)] w fun e w'=>e = .returned (.string ⟨(z4e d).toArray⟩) ∧ Below w.heap.size w w':=by
 have hx:Cells w.heap.size 27 (z0t d) (w.alloc (.cells (z0t d) 27)):=heap_alloc_new w _
 have hb:Below w.heap.size w (w.alloc (.cells (z0t d) 27)):=(Below.refl _ _).alloc (Nat.le_refl _) _
 have HX:=Lib.hid hx
 have HB:=Lib.hid hb
 have HD:=Lib.hid hd
 have HLEN:=Lib.hid (zcz hd)
 clear hx hb hd
 go_enter Tryz.func90,Tryz.ntmps90
 go_upto_region 1 with (fail)
 obtain ⟨w1,hw1⟩:∃ x,x = w.alloc (.cells (z0t d) 27):=⟨_,rfl⟩
 rw [← hw1] at HX HB ⊢
 clear hw1
 obtain ⟨c0,c1,c2,c3⟩:=z4u HX.out
 have hg:=HX.out.lt
 obtain ⟨k,hk⟩:∃ k,d.kind = k:=⟨_,rfl⟩
 have HK:=Shut.mk hk
 rw [hk] at c0
 have HC0:=Lib.hid (fun (w':World) (q:Below w1.heap.size w1 w')=>(q.cell (p:=⟨w.heap.size,0,none⟩) hg).trans c0)
 have HC1:=Lib.hid (fun (w':World) (q:Below w1.heap.size w1 w')=>(q.cell (p:=⟨w.heap.size,1,none⟩) hg).trans c1)
 have HC2:=Lib.hid (fun (w':World) (q:Below w1.heap.size w1 w')=>(q.cell (p:=⟨w.heap.size,2,none⟩) hg).trans c2)
 have HC3:=Lib.hid (fun (w':World) (q:Below w1.heap.size w1 w')=>zis (P:=Tryz.prog) (src:=121) (dst:=9) (c:=32) Tryz.underlying121 Tryz.underlying5 Tryz.underlying9 HD.out.ref.1.symm HD.out.ref.2 (z08 c3 q hg))
 have HN:=Lib.hid (fun w'=>zdv k w' (by have:=HD.out.high;rw [hk] at this;exact this))
 clear c0 c1 c2 c3 hg hk
 refine z0c (fun w'=>Below w1.heap.size w1 w') 10 (by kernel_rfl) (by kernel_rfl) (Below.refl _ _).drew ?_
 simp only [zC,zD,zE,zF]
 repeat (first
  | (go_big_quiet_want;refine z03 3 _ rfl ⟨w.heap.size,0,none⟩ _ rfl HC0.out Tryz.isAgg3 ?_;go_big_quiet_on;simp only [Act.put,zS,zA,zB])
  | (go_big_quiet_want;refine z03 9 _ rfl ⟨w.heap.size,1,none⟩ _ rfl HC1.out Tryz.isAgg9 ?_;go_big_quiet_on;simp only [Act.put,zS,zA,zB])
  | (go_big_quiet_want;refine z03 9 _ rfl ⟨w.heap.size,2,none⟩ _ rfl HC2.out Tryz.isAgg9 ?_;go_big_quiet_on;simp only [Act.put,zS,zA,zB])
  | (go_big_quiet_want;refine zcl 121 9 _ rfl (.slice (some ⟨w.heap.size,3,none⟩) 32 32) _ rfl HC3.out ?_;go_big_quiet_on;simp only [Act.put,zS,zA,zB])
  | go_big_quiet_step ((intro hs';first
   | (go_at_call 89;exact (HN.out _).mono fun e w' h=>⟨h.1,hs'.trans (h.2.mono hs'.size)⟩)
   | rfl)))
 refine wpQuiet_nil ?_
 intro w2 hs2
 have HB2:=Lib.hid (HB.out.trans (hs2.mono HB.out.size))
 clear hs2 HX HB HC0 HC1 HC2 HC3 HN
 go_wp2_with fail
 refine (z6x (some ⟨w2.heap.size,0,none⟩) 4 [z35 k.toNat,d.key,d.val,txt d.ref] _ (zal w2 _ _ _ _) (by simp) (by have:=HLEN.out;rw [z4e,HK.out] at this;omega)).mono ?_
 rintro e w3 ⟨rfl,hb⟩
 have HB3:=Lib.hid (HB2.out.trans (((Below.refl _ w2).alloc (Nat.le_refl _) _).trans (hb.mono (by simp)) |>.mono HB2.out.size))
 clear hb HB2
 go_wp2_with fail
 go_ret
 exact ⟨by rw [z4e,HK.out];rfl,HB3.out⟩
theorem zmc (o:OpN) (pa:Option Addr) (pc:Nat) (w:World) (ho:o.Fit) (hp:IAt pa o.preds w) :
 Calls Tryz.prog 63 #[.agg (opV o pa pc)] w fun e w'=>e = .returned (.string ⟨(opB o).toArray⟩) ∧ Below w.heap.size w w':=by
 have hx:Cells w.heap.size 38 (opV o pa pc) (w.alloc (.cells (opV o pa pc) 38)):=heap_alloc_new w _
 have hb:Below w.heap.size w (w.alloc (.cells (opV o pa pc) 38)):=(Below.refl _ _).alloc (Nat.le_refl _) _
 have HX:=Lib.hid hx
 have HB:=Lib.hid hb
 have HP:=Lib.hid (hp.below hb)
 have HD:=Lib.hid ho
 have HLEN:=Lib.hid (zhs ho)
 clear hx hb ho hp
 go_enter Tryz.func63,Tryz.ntmps63
 go_upto_region 1 with (fail)
 obtain ⟨w1,hw1⟩:∃ x,x = w.alloc (.cells (opV o pa pc) 38):=⟨_,rfl⟩
 rw [← hw1] at HX HB HP ⊢
 clear hw1
 obtain ⟨c0,c35,c36,c37⟩:=z0j HD.out.ok.ref.1 HX.out
 have hg:=HX.out.lt
 obtain ⟨n,hn⟩:∃ x,o.preds.length = x:=⟨_,rfl⟩
 have HNN:=Shut.mk hn
 have hn70:n ≤ 70:=by rw [← hn];exact HD.out.many
 rw [hn] at c37
 have HCC:=Lib.hid (And.intro c0 (And.intro c35 c36))
 clear hn c0 c35 c36
 have HR0:=Lib.hid (show ∀ k,k ≤ n → (z4k o.preds k).length = 32 * k from fun k hk=>zga HD.out.preds (by rw [HNN.out];exact hk))
 go_wp2_with fail
 go_loopw [3,9] (fun v i wr=>∃ k:Nat,k ≤ n ∧ i = .int .i64 k ∧ v = .string ⟨(txt (z4k o.preds k)).toArray⟩ ∧ Below w1.heap.size w1 wr) (fun _ i _=>n - (intOf i).toNat)
 case atStart=>exact ⟨0,Nat.zero_le _,rfl,rfl,Below.refl _ _⟩
 case round =>
  obtain ⟨k,hk,rfl,rfl,hb⟩:=hrel
  have HBW:=Lib.hid hb
  have HLK:=Shut.mk (HR0.out k hk)
  have HPW:=Lib.hid (HP.out.below hb)
  clear hb
  by_cases hlt:k < n
  ·obtain ⟨b,ob,rfl,hbl⟩:=HPW.out.some (by rw [HNN.out];omega)
   have g1:=HPW.out.get (i:=k) (by rw [HNN.out];omega)
   have i1:=Ids.getD HD.out.preds (i:=k) (by rw [HNN.out];omega)
   have HNX:=Shut.mk (show txt (z4k o.preds (k + 1)) = txt (z4k o.preds k) ++ txt (o.preds.getD k []) by rw [zcj (by rw [HNN.out];exact hlt),zj8])
   obtain ⟨x,hx⟩:∃ x,o.preds.getD k [] = x:=⟨_,rfl⟩
   have HLT:=Lib.hid (show (txt (z4k o.preds k)).length = 32 * k by rw [z32];exact HLK.out)
   obtain ⟨R,hR⟩:∃ R,txt (z4k o.preds k) = R:=⟨_,rfl⟩
   rw [hx] at g1 i1 HNX
   rw [hR] at HNX HLT ⊢
   have HG1:=Lib.hid g1
   have HS1:=Lib.hid (show (Tryz.prog.info? 25).map (·.size) = some x.length by rw [i1.1];exact Tryz.sizeI)
   have HL2:=Lib.hid (show (List.replicate 32 0).length = x.length by rw [i1.1];rfl)
   have HXO:=Lib.hid i1
   clear hx hR g1 i1
   go_wp2_with (first
    | (refine z0a rfl 25 _ rfl b (ob + k * 32) x _ rfl HG1.out Tryz.underlying25 rfl HS1.out ?_)
    | (refine z06 rfl 25 _ _ rfl rfl wr.heap.size .u8 (List.replicate 32 0) x 25 rfl rfl (heap_alloc_new wr _) HS1.out HL2.out ?_))
   intro w5 hc' hb'
   have hconv:=conv_blk (P:=Tryz.prog) w5 121 9 5 wr.heap.size 32 32 x 25 HXO.out.1.symm HXO.out.2 hc'.out Tryz.underlying121 Tryz.underlying5 Tryz.underlying9
   have HB5:=Lib.hid (show Below w1.heap.size w1 w5 from But.toBelow (HBW.out.alloc HBW.out.size _) hb'.out HBW.out.size (Nat.le_trans HBW.out.size (by rw [World.size_alloc];exact Nat.le_succ _)))
   have hcat:=cat2 R (txt x)
   have hl1:=HLT.out
   have hl2:(txt x).length = 32:=by rw [z32];exact HXO.out.1
   clear hc' hb' HL2
   go_wp2_with fail
   exact ⟨⟨k + 1,by omega,by go_num,by rw [HNX.out],HB5.out⟩,by simp [intOf];omega⟩
  ·obtain rfl:k = n:=by omega
   have HTX:=Shut.mk (show txt (z4k o.preds k) = z4f o.preds by rw [← HNN.out,zgf])
   rw [HTX.out]
   have hgw:w.heap.size < wr.heap.size:=Nat.lt_of_lt_of_le hg HBW.out.size
   have HSD:=Lib.hid (show (Tryz.prog.info? 27).map (·.size) = some (z1h o.d).length by rw [z0u HD.out.ok.ref.1];exact Tryz.sizeD)
   have HT:=Lib.hid (fun w'=>zdb o.d HD.out.d w')
   obtain ⟨A,hA⟩:∃ x,o.author = x:=⟨_,rfl⟩
   obtain ⟨D,hD⟩:∃ x,o.depth = x:=⟨_,rfl⟩
   have HE:=Shut.mk (show opB o = z38 [z35 A.toNat,z35 D.toNat,z4f o.preds,z4e o.d] by rw [opB,hA,hD])
   have c35:=HCC.out.2.1
   have c36:=HCC.out.2.2
   rw [hA] at c35
   rw [hD] at c36
   have HNA:=Lib.hid (fun w'=>zdv A w' (by have:=HD.out.ahigh;rw [hA] at this;exact this))
   have HND:=Lib.hid (fun w'=>zdv D w' (by have:=HD.out.dhigh;rw [hD] at this;exact this))
   have HC0:=Lib.hid (fun (w':World) (q:Below wr.heap.size wr w')=>show w'.rangeAt w.heap.size 0 (z1h o.d) from z08 (z08 HCC.out.1 HBW.out hg) q hgw)
   have HC5:=Lib.hid (fun (w':World) (q:Below wr.heap.size wr w')=>(q.cell (p:=⟨w.heap.size,35,none⟩) hgw).trans ((HBW.out.cell (p:=⟨w.heap.size,35,none⟩) hg).trans c35))
   have HC6:=Lib.hid (fun (w':World) (q:Below wr.heap.size wr w')=>(q.cell (p:=⟨w.heap.size,36,none⟩) hgw).trans ((HBW.out.cell (p:=⟨w.heap.size,36,none⟩) hg).trans c36))
   obtain ⟨PB,hPB⟩:∃ x,z4f o.preds = x:=⟨_,rfl⟩
   obtain ⟨DB,hDB⟩:∃ x,z4e o.d = x:=⟨_,rfl⟩
   rw [hPB] at HE ⊢
   rw [hDB] at HT HE
   have HLN:=Lib.hid (show (z38 [z35 A.toNat,z35 D.toNat,PB,DB]).length ≤ 4000 by rw [← HE.out];exact HLEN.out)
   have HBR:=Lib.hid (HB.out.trans (HBW.out.mono HB.out.size))
   clear c35 c36 hg hA hD hPB hDB HX HLEN hgw HCC HTX HR0 HLK HP HPW
   go_upto_region 7 with (fail)
   refine z0c (fun w'=>Below wr.heap.size wr w') 10 (by kernel_rfl) (by kernel_rfl) (Below.refl _ _).drew ?_
   simp only [zC,zD,zE,zF]
   repeat (first
    | (go_big_quiet_want;refine z03 3 _ rfl ⟨w.heap.size,35,none⟩ _ rfl HC5.out Tryz.isAgg3 ?_;go_big_quiet_on;simp only [Act.put,zS,zA,zB])
    | (go_big_quiet_want;refine z03 3 _ rfl ⟨w.heap.size,36,none⟩ _ rfl HC6.out Tryz.isAgg3 ?_;go_big_quiet_on;simp only [Act.put,zS,zA,zB])
    | (go_big_quiet_want;refine z14 27 _ rfl w.heap.size 0 (z1h o.d) _ rfl HC0.out Tryz.underlying27 rfl HSD.out ?_;go_big_quiet_on;simp only [Act.put,zS,zA,zB])
    | go_big_quiet_step ((intro hs';first
     | (go_at_call_of 89 (Value.int .i64 A);exact (HNA.out _).mono fun e w' h=>⟨h.1,hs'.trans (h.2.mono hs'.size)⟩)
     | (go_at_call_of 89 (Value.int .i64 D);exact (HND.out _).mono fun e w' h=>⟨h.1,hs'.trans (h.2.mono hs'.size)⟩)
     | (go_at_call 90;exact (HT.out _).mono fun e w' h=>⟨h.1,hs'.trans (h.2.mono hs'.size)⟩)
     | rfl)))
   refine wpQuiet_nil ?_
   intro w2 hs2
   have HB2:=Lib.hid (HBR.out.trans (hs2.mono HBR.out.size))
   clear hs2 HB HBR HC0 HC5 HC6 HNA HND HT
   go_wp2_with fail
   refine (z6x (some ⟨w2.heap.size,0,none⟩) 4 [z35 A.toNat,z35 D.toNat,PB,DB] _ (zal w2 _ _ _ _) (by simp) (by have:=HLN.out;omega)).mono ?_
   rintro e w3 ⟨rfl,hb⟩
   have HB3:=Lib.hid (HB2.out.trans (((Below.refl _ w2).alloc (Nat.le_refl _) _).trans (hb.mono (by simp)) |>.mono HB2.out.size))
   clear hb HB2
   go_wp2_with fail
   go_ret
   exact ⟨by rw [HE.out];rfl,HB3.out⟩
end Go.Proofs.YtnbldbbbibpobaaGreatDoor
namespace Go.Proofs.YtnbldbbbibpobaaGreatDoor
open Go.RowKit
def z6v:Code → List Code
 | .loop c=>c :: z6v c
 | .seq a b=>z6v a ++ z6v b
 | .block _ c=>z6v c
 | .scope c=>z6v c
 | .cond _ a b=>z6v a ++ z6v b
 | _=>[]
noncomputable def z6c (f:Func) (n:Nat):Code:=((f.body.map z6v).getD []).getD n .skip
def Ends (k:Nat) (R:Act → World → Prop):Exit → Act → World → Prop
 | .exit j,a,w=>j = k ∧ R a w
 | _,_,_=>False
theorem z29 {k:Nat} {R:Act → World → Prop} {a:Act} {w:World} (h:R a w):Ends k R (.exit k) a w:=⟨rfl,h⟩
theorem z3p {P:Program} {c:Code} {k:Nat} {Q:Exit → Act → World → Prop} {a:Act} {w:World} (h:c.wp P (Ends k (fun a w=>Q (.exit k) a w)) a w):c.wp P Q a w:=by
 refine wp_mono h ?_
 intro e a w he
 cases e with
 | exit j=>obtain ⟨rfl,hr⟩:=he;exact hr
 | _=>exact absurd he (by simp [Ends])
def z49 (s:List UInt8) (q:Nat):List Nat:=z15 s ++ [128] ++ List.replicate q 0
theorem z9c (s:List UInt8) (q:Nat):(z49 s q).length = s.length + 1 + q:=by simp [z49,z10];omega
theorem zgk (s:List UInt8) (q:Nat):z49 s (q + 1) = z49 s q ++ [0]:=by simp [z49,List.replicate_succ']
theorem zjq (s:List UInt8):z4y s = z49 s (z1z s.length) ++ l8 (s.length * 8) 8:=rfl
structure OfSt (w:World) (bv:Value) (p:List Nat) (v:S8) (wr:World):Prop where
 h:OwnN (w.heap.size + 1) 143 .u32 (.slice (some ⟨w.heap.size + 1,0,none⟩) 8 8) v.list wr
 k:OwnN (w.heap.size + 1) 143 .u32 (.slice (some ⟨w.heap.size + 1 + 1,0,none⟩) 64 64) shaK wr
 b:OwnT (w.heap.size + 3) 5 .u8 bv p wr
 r:wr.heap[w.heap.size]? = some (.cells (z07 .u8 (List.replicate 32 0)).toArray 25 (0,0))
 bel:Below w.heap.size w wr
theorem OfSt.below {w:World} {bv:Value} {p:List Nat} {v:S8} {wr w':World} (h:OfSt w bv p v wr) (b:Below wr.heap.size wr w'):OfSt w bv p v w' :=
 ⟨h.h.below b,h.k.below b,h.b.below b,(b.block _ (lt_of_block h.r)).trans h.r,h.bel.trans (b.mono (h.bel.size))⟩
theorem z4o (x k:Nat) (w:World) (hx:x < 4294967296) (hk1:1 ≤ k) (hk:k ≤ 31) :
 Calls Tryz.prog 108 #[.int .u32 x,.int .u32 k] w fun e w'=>e = .returned (.int .u32 (z7p x k)) ∧ w' = w :=
 (turn_any x k w hx hk1 hk).mono fun _ _ h=>⟨h.1,h.2.symm⟩
def z6h (b:Nat → Nat) (i:Nat):List Nat:=wl b i ++ List.replicate (64 - i) 0
theorem z8s (b:Nat → Nat) {i:Nat} (h:i ≤ 64):(z6h b i).length = 64:=by unfold z6h;rw [List.length_append,z6g,List.length_replicate];omega
theorem zej (b:Nat → Nat):z6h b 64 = wl b 64:=by unfold z6h;rw [show 64 - 64 = 0 from rfl,List.replicate_zero,List.append_nil]
theorem zdp (b:Nat → Nat) {i x:Nat} (h:i < 64):(z6h b i).set i x = wl b i ++ [x] ++ List.replicate (64 - (i + 1)) 0:=by
 unfold z6h
 rw [List.set_append_right _ _ (by rw [z6g];exact Nat.le_refl _),z6g,Nat.sub_self,show 64 - i = (64 - (i + 1)) + 1 by omega,List.replicate_succ,List.set_cons_zero,List.append_assoc]
 rfl
theorem zev {b:Nat → Nat} {i:Nat} (h:i < 16):(z6h b i).set i (zaz b i) = z6h b (i + 1):=by rw [zdp b (by omega)];unfold z6h;rw [zh1 h]
theorem zey {b:Nat → Nat} {i:Nat} (h:¬ i < 16) (h2:i < 64):(z6h b i).set i (zg2 (wl b i) i) = z6h b (i + 1):=by rw [zdp b h2];unfold z6h;rw [zhk h]
theorem arrW_at {b:Nat → Nat} {i:Nat} (h:i < 64):(z6h b i).set i 0 = z6h b i:=by
 rw [zdp b h]
 unfold z6h
 rw [show 64 - i = (64 - (i + 1)) + 1 by omega,List.replicate_succ,List.append_assoc]
 rfl
def zlv (b:Nat → Nat) (i:Nat):Nat → Nat
 | 0=>0
 | q + 1=>256 * zlv b i q + b (4 * i + q)
theorem accN_lt {b:Nat → Nat} (hb:∀ j,b j < 256) (i q:Nat) (hq:q ≤ 3):zlv b i q < 16777216:=by
 have h0:=hb (4 * i + 0)
 have h1:=hb (4 * i + 1)
 have h2:=hb (4 * i + 2)
 match q,hq with
 | 0,_=>show 0 < _;omega
 | 1,_=>show 256 * 0 + b (4 * i + 0) < _;omega
 | 2,_=>show 256 * (256 * 0 + b (4 * i + 0)) + b (4 * i + 1) < _;omega
 | 3,_=>show 256 * (256 * (256 * 0 + b (4 * i + 0)) + b (4 * i + 1)) + b (4 * i + 2) < _;omega
theorem zkn (b:Nat → Nat) (i:Nat):zlv b i 4 = zaz b i:=by
 show 256 * (256 * (256 * (256 * 0 + b (4 * i + 0)) + b (4 * i + 1)) + b (4 * i + 2)) + b (4 * i + 3) = _
 unfold zaz
 rw [Nat.add_zero]
 omega
def wAt (p:List Nat) (m:Nat):Nat → Nat:=fun j=>p.getD (64 * m + j) 0
theorem OfSt.next {w:World} {bv:Value} {p:List Nat} {v v':S8} {wr w':World} (h:OfSt w bv p v wr) (b:But (w.heap.size + 1) wr w') (hh:OwnN (w.heap.size + 1) 143 .u32 (.slice (some ⟨w.heap.size + 1,0,none⟩) 8 8) v'.list w'):OfSt w bv p v' w':=by
 have hsz:=h.bel.size
 have hl:=(h.h.lt _ rfl).2
 refine ⟨hh,h.k.but b (by rintro g hg rfl;simp [Value.ownBlock] at hg),h.b.but b (by intro g hg e;have:=(h.b.lt g hg).1;omega),(b.block _ (lt_of_block h.r) (by omega)).trans h.r,?_⟩
 exact But.toBelow h.bel b (by omega) hsz
theorem S8.list_len (v:S8):v.list.length = 8:=rfl
theorem S8.Ok.lt {v:S8} (h:v.Ok):∀ x ∈ v.list,x < 4294967296:=by
 intro x hx
 simp only [S8.list,List.mem_cons,List.not_mem_nil,or_false] at hx
 rcases hx with rfl | rfl | rfl | rfl | rfl | rfl | rfl | rfl
 ·exact h.a
 ·exact h.b
 ·exact h.c
 ·exact h.d
 ·exact h.e
 ·exact h.f
 ·exact h.g
 ·exact h.h
def zk4 (a b:List Nat):Nat → List Nat
 | 0=>a
 | q + 1=>(zk4 a b q).set q ((a.getD q 0 + b.getD q 0) % 4294967296)
theorem zhz (a b:List Nat) (q:Nat):(zk4 a b q).length = a.length:=by
 induction q with
 | zero=>rfl
 | succ q ih=>rw [zk4,List.length_set,ih]
theorem zko (a b:List Nat) (q j:Nat) (h:q ≤ j):(zk4 a b q).getD j 0 = a.getD j 0:=by
 induction q with
 | zero=>rfl
 | succ q ih =>
   rw [zk4,List.getD_eq_getElem?_getD,List.getElem?_set_ne (by omega),← List.getD_eq_getElem?_getD,ih (by omega)]
theorem zd1 (h v:S8):zk4 h.list v.list 8 = (addS h v).list:=rfl
def outB (l:List Nat) (i:Nat):Nat:=l.getD (i / 4) 0 / 2 ^ (24 - 8 * (i % 4)) % 256
def zip (l:List Nat) (q:Nat):List Nat:=(List.range q).map (outB l) ++ List.replicate (32 - q) 0
theorem zes (l:List Nat):zip l 32 = zeb l:=by simp [zip,zeb,outB]
theorem zir (l:List Nat) (q:Nat) (h:q < 32):(zip l q).set q (outB l q) = zip l (q + 1):=by
 unfold zip
 rw [List.set_append_right _ _ (by simp),List.length_map,List.length_range,Nat.sub_self,show 32 - q = (32 - (q + 1)) + 1 by omega,List.replicate_succ,List.set_cons_zero,List.range_succ,List.map_append,List.append_assoc]
 rfl
theorem zio (l:List Nat) (q:Nat) (h:q ≤ 32):(zip l q).length = 32:=by simp [zip];omega
end Go.Proofs.YtnbldbbbibpobaaGreatDoor
