/-
  One byte of an element in a row; Root and Path, whatever comes.
-/
import Derived.Test.YtgmckanjgnpbhaaDoorAlive5
namespace Go.Proofs.YtgmckanjgnpbhaaDoor
open Go.RowKit Go.BigFrame

theorem OwnE.byte {B g n c i j : Nat} {e : TypeId} {L : List (List Nat)} {w : World} (hn : n = L.length) (h : OwnE B e (.slice (some ⟨g, 0, none⟩) n c) L w) (hL : Elems L) (hi : i < n) (hj : j < 16) :
    w.cell? ⟨g, i * 16 + j, none⟩ = some (.int .u8 (((L.getD i []).getD j 0 : Nat) : Int)) := by
  subst hn
  have hx := (hL.getD hi).1
  rw [World.ownsRow.cellAt h (i * 16 + j) (by omega), Nat.mul_comm, flatE_get hL hi hj, nums, List.getElem?_map, List.getElem?_eq_getElem (by omega), List.getD_eq_getElem?_getD (l := L.getD i []), List.getElem?_eq_getElem (by omega)]
  rfl
theorem OwnE.frozenByte {B g n c : Nat} {e : TypeId} {L : List (List Nat)} {w : World} (hn : n = L.length) (h : OwnE B e (.slice (some ⟨g, 0, none⟩) n c) L w) (o : Nat) : w.frozen? ⟨g, o, none⟩ = false := by
  subst hn
  exact World.ownsRow.frozenAt h o
theorem set_lt {x : List Nat} (hx : ∀ y ∈ x, y < 256) (j : Nat) {z : Nat} (hz : z < 256) : ∀ y ∈ x.set j z, y < 256 := fun y hy => by
  rcases List.mem_or_eq_of_mem_set hy with h | rfl
  · exact hx y h
  · exact hz
theorem flatE_byte {L : List (List Nat)} (hL : Elems L) {i j z : Nat} (hi : i < L.length) (hj : j < 16) (hz : z < 256) : flatE (L.set i ((L.getD i []).set j z)) = (flatE L).set (i * 16 + j) (.int .u8 (z : Int)) := by
  obtain ⟨hx1, hx2⟩ := hL.getD hi
  have hfl := flatE_len hL
  have hs1 : ((L.getD i []).set j z).length = 16 := by rw [List.length_set, hx1]
  have hns : (nums .u8 ((L.getD i []).set j z)).length = 16 := by rw [nums_len, hs1]
  rw [flatE_set hL hi hs1 (set_lt hx2 j hz)]
  refine List.ext_getElem? fun q => ?_
  rw [layL_get _ _ _ _ (by rw [hns, hfl]; omega), hns]
  by_cases hq : 16 * i ≤ q ∧ q < 16 * i + 16
  · rw [if_pos hq]
    obtain ⟨m, rfl, hm⟩ : ∃ m, q = 16 * i + m ∧ m < 16 := ⟨q - 16 * i, by omega, by omega⟩
    rw [show 16 * i + m - 16 * i = m by omega, nums, List.map_set]
    by_cases hmj : m = j
    · subst hmj
      rw [List.getElem?_set_self (by rw [List.length_map]; omega), show i * 16 + m = 16 * i + m by omega, List.getElem?_set_self (by omega)]
    · rw [List.getElem?_set_ne (Ne.symm hmj), List.getElem?_set_ne (by omega), flatE_get hL hi hm]
      rfl
  · rw [if_neg hq, List.getElem?_set_ne (by omega)]
/-- One byte of an element is stored. -/
theorem OwnE.setByte {B g n c i j z : Nat} {e : TypeId} {L : List (List Nat)} {w : World} (hn : n = L.length) (h : OwnE B e (.slice (some ⟨g, 0, none⟩) n c) L w) (hL : Elems L) (hi : i < n) (hj : j < 16) (hz : z < 256) :
    OwnE B e (.slice (some ⟨g, 0, none⟩) n c) (L.set i ((L.getD i []).set j z)) (w.setCell ⟨g, i * 16 + j, none⟩ (.int .u8 (z : Int))) := by
  subst hn
  have h1 := (World.ownsRow.stored h (i * 16 + j) (.int .u8 (z : Int))).1
  unfold OwnE
  rw [List.length_set, flatE_byte hL hi hj hz]
  exact h1
theorem Elems.setByte {L : List (List Nat)} (hL : Elems L) {i j z : Nat} (hi : i < L.length) (hz : z < 256) : Elems (L.set i ((L.getD i []).set j z)) := by
  obtain ⟨hx1, hx2⟩ := hL.getD hi
  exact hL.set i (by rw [List.length_set, hx1]) (set_lt hx2 j hz)

/-- Root answers the same whatever lies in the world. -/
theorem root_some (L : List (List Nat)) (hL : Elems L) (hn : L.length ≤ 9000000000000) : ∃ (x : List Nat) (ek : Int), x.length = 16 ∧ (∀ y ∈ x, y < 256) ∧ ∀ (ao : Option Addr) (cap : Nat) (w : World), EAt ao L w → KAt w →
    Calls Tryd.prog 10 #[.slice ao L.length cap] w fun e w' => e = .returned (.tuple #[.agg (nums .u8 x).toArray, .int .i64 ek]) ∧ Below w.heap.size w w' := by
  cases hg : goodN L.length with
  | false => exact ⟨List.replicate 16 0, 1, rfl, by decide, fun ao cap w _ _ => dev_root_not L.length ao cap w hg hn⟩
  | true =>
    obtain ⟨h, h8, hp⟩ := goodN_pow hg
    obtain ⟨h1, h2⟩ := atN_ok hL h 0 (by rw [Nat.zero_mul, hp]; exact Nat.two_pow_pos h)
    exact ⟨atN L h 0, 0, h1, h2, fun ao cap w hE hk => dev_root L h ao cap w hL hE hg hp h8 hk⟩
/-- Path answers a new row whatever comes. -/
theorem path_some (L : List (List Nat)) (i : Int) (hL : Elems L) (hn : L.length ≤ 9000000000000) : ∃ (R : List (List Nat)) (fk : Int), Elems R ∧ R.length ≤ 8 ∧ ∀ (ao : Option Addr) (cap : Nat) (w : World), EAt ao L w → KAt w →
    Calls Tryd.prog 11 #[.int .i64 i, .slice ao L.length cap] w fun e w' => (∃ v, e = .returned (.tuple #[v, .int .i64 fk]) ∧ OwnE w.heap.size 27 v R w') ∧ Below w.heap.size w w' := by
  by_cases hb : goodN L.length = false ∨ i < 0 ∨ (L.length : Int) ≤ i
  · refine ⟨[], 1, Elems.nil, by simp, fun ao cap w _ _ => (dev_path_not L.length i ao cap w hn hb).mono ?_⟩
    rintro e w' ⟨rfl, hb⟩
    exact ⟨⟨_, rfl, OwnE.nil _ _ _⟩, hb⟩
  · have hg : goodN L.length = true := by
      cases hc : goodN L.length with
      | false => exact absurd (.inl hc) hb
      | true => rfl
    have h0 : 0 ≤ i := by
      rcases Int.lt_or_le i 0 with h | h
      · exact absurd (.inr (.inl h)) hb
      · exact h
    have h1 : i < (L.length : Int) := by
      rcases Int.lt_or_le i (L.length : Int) with h | h
      · exact h
      · exact absurd (.inr (.inr h)) hb
    obtain ⟨k, rfl⟩ : ∃ k : Nat, i = k := ⟨i.toNat, by omega⟩
    obtain ⟨h, h8, hp⟩ := goodN_pow hg
    have hk : k < L.length := by omega
    exact ⟨pathN L k h, 0, pathN_ok hL hp hk (Nat.le_refl _), by rw [pathN_len]; exact h8, fun ao cap w hE hkat => dev_path L h k ao cap w hL hE hg hp h8 hk hkat⟩
/-- An index out of any number. -/
theorem idx_some (a : Int) {n : Nat} (h : 0 < n) (hn : n ≤ 256) : ∃ q : Nat, q < n ∧ wrap64 ((IntKind.u64.wrap a).tmod (n : Int)) = (q : Int) := by
  have e : IntKind.u64.wrap a = a % 18446744073709551616 := by simp [IntKind.wrap, IntKind.bits, IntKind.signed]
  have h0 : 0 ≤ IntKind.u64.wrap a := by rw [e]; omega
  generalize IntKind.u64.wrap a = u at h0
  rw [Int.tmod_eq_emod_of_nonneg h0]
  have h1 : 0 ≤ u % (n : Int) := Int.emod_nonneg _ (by omega)
  have h2 : u % (n : Int) < (n : Int) := Int.emod_lt_of_pos _ (by omega)
  generalize u % (n : Int) = r at h1 h2
  refine ⟨r.toNat, by omega, ?_⟩
  unfold wrap64
  omega
theorem bits_xor_u8 {b c : Nat} (hb : b < 256) (hc : c < 256) : bits .xor .u8 (b : Int) (c : Int) = ((b ^^^ c : Nat) : Int) := by
  show IntKind.u8.wrap ((BitVec.ofInt 8 (b : Int) ^^^ BitVec.ofInt 8 (c : Int)).toNat : Int) = _
  have h1 : (BitVec.ofInt 8 (b : Int) ^^^ BitVec.ofInt 8 (c : Int)).toNat = b ^^^ c := by
    rw [BitVec.toNat_xor, BitVec.toNat_ofInt, BitVec.toNat_ofInt]
    rw [show ((b : Int) % ((2 ^ 8 : Nat) : Int)).toNat = b by omega, show ((c : Int) % ((2 ^ 8 : Nat) : Int)).toNat = c by omega]
  have h2 : b ^^^ c < 2 ^ 8 := Nat.xor_lt_two_pow (by omega) (by omega)
  rw [h1]
  generalize b ^^^ c = n at h2
  have key : ∀ n : Fin 256, IntKind.u8.wrap (n.val : Int) = (n.val : Int) := by decide +kernel
  exact key ⟨n, h2⟩
theorem xor_lt_256 {b c : Nat} (hb : b < 256) (hc : c < 256) : b ^^^ c < 256 := by
  have h2 : b ^^^ c < 2 ^ 8 := Nat.xor_lt_two_pow (by omega) (by omega)
  exact h2
/-- The leaves with one byte of one of them turned. -/
def turnN (L : List (List Nat)) (q c : Nat) : List (List Nat) := L.set q ((L.getD q []).set 3 ((L.getD q []).getD 3 0 ^^^ c))
theorem turnN_len (L : List (List Nat)) (q c : Nat) : (turnN L q c).length = L.length := List.length_set
theorem turnN_zero {L : List (List Nat)} {q : Nat} (hL : Elems L) (hq : q < L.length) : turnN L q 0 = L := by
  have hx := (hL.getD hq).1
  unfold turnN
  rw [Nat.xor_zero]
  have h1 : (L.getD q []).set 3 ((L.getD q []).getD 3 0) = L.getD q [] := by
    generalize L.getD q [] = x at hx
    rw [List.getD_eq_getElem?_getD, List.getElem?_eq_getElem (by omega)]
    exact List.set_getElem_self _
  rw [h1, List.getD_eq_getElem?_getD, List.getElem?_eq_getElem hq]
  exact List.set_getElem_self _
end Go.Proofs.YtgmckanjgnpbhaaDoor
