/-
  One-time signatures, as plain mathematics.
-/
import Derived.Test.YtlgmlnhjanjplaaDoorDig
namespace Go.Proofs.YtlgmlnhjanjplaaDoor
open Go.RowKit

def secN (seed : List UInt8) (i c : Int) : List Nat := (shaN (listB [[107], seed, numB i.toNat, numB c.toNat])).take 16
def keyN (ends : List UInt8) (i : Int) : List Nat := (shaN (listB [[108], ends, numB i.toNat])).take 16
theorem secN_len (seed : List UInt8) (i c : Int) : (secN seed i c).length = 16 := by rw [secN, List.length_take, shaN_len]; rfl
theorem secN_lt (seed : List UInt8) (i c : Int) : ∀ y ∈ secN seed i c, y < 256 := fun y hy => shaN_lt _ y (List.mem_of_mem_take hy)
theorem keyN_len (ends : List UInt8) (i : Int) : (keyN ends i).length = 16 := by rw [keyN, List.length_take, shaN_len]; rfl
theorem keyN_lt (ends : List UInt8) (i : Int) : ∀ y ∈ keyN ends i, y < 256 := fun y hy => shaN_lt _ y (List.mem_of_mem_take hy)
/-- The bytes of k elements, one behind the other. -/
def rowE (f : Nat → List Nat) : Nat → List UInt8
  | 0 => []
  | k + 1 => rowE f k ++ txt (f k)
theorem rowE_len {f : Nat → List Nat} (hf : ∀ j, (f j).length = 16) (k : Nat) : (rowE f k).length = 16 * k := by
  induction k with
  | zero => rfl
  | succ k ih => rw [rowE, List.length_append, ih, txt_len, hf]; omega
/-- Sixteen bytes of a text. -/
def part (s : List UInt8) (j : Nat) : List UInt8 := (s.drop (16 * j)).take 16
theorem part_len {s : List UInt8} {j k : Nat} (h : s.length = 16 * k) (hj : j < k) : (part s j).length = 16 := by
  rw [part, List.length_take, List.length_drop]; omega
theorem part_rowE {f : Nat → List Nat} (hf : ∀ j, (f j).length = 16) {j : Nat} : ∀ {k : Nat}, j < k → part (rowE f k) j = txt (f j) := by
  intro k
  induction k with
  | zero => intro h; omega
  | succ k ih =>
    intro h
    have hl := rowE_len hf k
    by_cases e : j = k
    · subst e
      rw [part, rowE, List.drop_append_of_le_length (by omega), List.drop_of_length_le (by omega), List.nil_append, List.take_of_length_le (by rw [txt_len, hf]; exact Nat.le_refl _)]
    · rw [part, rowE, List.drop_append_of_le_length (by omega), List.take_append_of_le_length (by rw [List.length_drop]; omega)]
      exact ih (by omega)
theorem rowE_congr {f g : Nat → List Nat} : ∀ {k : Nat}, (∀ j, j < k → f j = g j) → rowE f k = rowE g k := by
  intro k
  induction k with
  | zero => intro _; rfl
  | succ k ih => intro h; rw [rowE, rowE, ih (fun j hj => h j (by omega)), h k (by omega)]
theorem byteNs_part_lt (s : List UInt8) (j : Nat) : ∀ y ∈ byteNs (part s j), y < 256 := byteNs_lt _
theorem walkI_len {x : List Nat} (hx : x.length = 16) (pl : List UInt8) (a b : Int) : (walkI x pl a b).length = 16 := walkN_len hx _ _ _
theorem walkI_lt {x : List Nat} (hx : ∀ y ∈ x, y < 256) (pl : List UInt8) (a b : Int) : ∀ y ∈ walkI x pl a b, y < 256 := walkN_lt hx _ _ _
theorem walkI_join (x : List Nat) (pl : List UInt8) {a b c : Int} (h0 : 0 ≤ a) (h1 : a ≤ b) (h2 : b ≤ c) (h3 : c ≤ 15) : walkI (walkI x pl a b) pl b c = walkI x pl a c := by
  unfold walkI
  have e1 : (max b 0).toNat = (max a 0).toNat + ((min b 15).toNat - (max a 0).toNat) := by omega
  have e2 : (min c 15).toNat - (max a 0).toNat = ((min b 15).toNat - (max a 0).toNat) + ((min c 15).toNat - (max b 0).toNat) := by omega
  rw [e2, ← walkN_add, ← e1]

def endF (seed : List UInt8) (i : Int) (j : Nat) : List Nat := walkI (secN seed i j) (placeB i j) 0 15
def sgnF (seed : List UInt8) (i : Int) (d : List Nat) (j : Nat) : List Nat := walkI (secN seed i j) (placeB i j) 0 ((digN d).getD j 0 : Nat)
def metF (sig : List UInt8) (i : Int) (d : List Nat) (j : Nat) : List Nat := walkI (byteNs (part sig j)) (placeB i j) ((digN d).getD j 0 : Nat) 15
def leafN (seed : List UInt8) (i : Int) : List Nat := keyN (rowE (endF seed i) 35) i
def signN (seed : List UInt8) (i : Int) (d : List Nat) : List UInt8 := rowE (sgnF seed i d) 35
def meetN (sig : List UInt8) (i : Int) (d : List Nat) : List Nat := keyN (rowE (metF sig i d) 35) i
theorem endF_len (seed : List UInt8) (i : Int) (j : Nat) : (endF seed i j).length = 16 := walkI_len (secN_len _ _ _) _ _ _
theorem sgnF_len (seed : List UInt8) (i : Int) (d : List Nat) (j : Nat) : (sgnF seed i d j).length = 16 := walkI_len (secN_len _ _ _) _ _ _
theorem endF_lt (seed : List UInt8) (i : Int) (j : Nat) : ∀ y ∈ endF seed i j, y < 256 := walkI_lt (secN_lt _ _ _) _ _ _
theorem sgnF_lt (seed : List UInt8) (i : Int) (d : List Nat) (j : Nat) : ∀ y ∈ sgnF seed i d j, y < 256 := walkI_lt (secN_lt _ _ _) _ _ _
theorem signN_len (seed : List UInt8) (i : Int) (d : List Nat) : (signN seed i d).length = 560 := rowE_len (sgnF_len seed i d) 35
theorem signN_part (seed : List UInt8) (i : Int) (d : List Nat) {j : Nat} (hj : j < 35) : byteNs (part (signN seed i d) j) = sgnF seed i d j := by
  rw [signN, part_rowE (sgnF_len seed i d) hj, byteNs_txt (sgnF_lt seed i d j)]
/-- What is signed meets its key. -/
theorem meet_sign (seed : List UInt8) (i : Int) {d : List Nat} (hd : d.length = 16) (ld : ∀ y ∈ d, y < 256) : meetN (signN seed i d) i d = leafN seed i := by
  unfold meetN leafN
  rw [rowE_congr (g := endF seed i) fun j hj => ?_]
  have h := getD_lt (digN_lt hd ld) (by decide) j
  rw [metF, signN_part seed i d hj, sgnF, endF]
  exact walkI_join _ _ (by omega) (by omega) (by omega) (by omega)
/-- Each sixteen bytes stand on their chain. -/
theorem sign_rest (seed : List UInt8) (i : Int) {d : List Nat} (hd : d.length = 16) (ld : ∀ y ∈ d, y < 256) (j : Nat) : walkI (sgnF seed i d j) (placeB i j) ((digN d).getD j 0 : Nat) 15 = endF seed i j := by
  have h := getD_lt (digN_lt hd ld) (by decide) j
  exact walkI_join _ _ (by omega) (by omega) (by omega) (by omega)

/-- A list of four texts of which one is long. -/
theorem parts4_small {p a b c : List UInt8} (hp : p.length ≤ 8) (ha : a.length ≤ 4000) (hb : b.length ≤ 600) (hc : c.length ≤ 600) : (listB [p, a, b, c]).length ≤ 140737488350000 := by
  have h2 := numB_length_9 (n := [p, a, b, c].length) (by simp)
  have e1 := numB_length_9 (n := p.length) (by omega)
  have e2 := numB_length_9 (n := a.length) (by omega)
  have e3 := numB_length_9 (n := b.length) (by omega)
  have e4 := numB_length_9 (n := c.length) (by omega)
  rw [listB_length]
  simp only [textsB_cons, List.length_append, textB_length, show textsB [] = [] from rfl, List.length_nil] at *
  omega
theorem parts3_of {p a b : List UInt8} (hp : p.length ≤ 8) (ha : a.length ≤ 4000) (hb : b.length ≤ 600) : (listB [p, a, b]).length ≤ 140737488350000 := by
  have h2 := numB_length_9 (n := [p, a, b].length) (by simp)
  have e1 := numB_length_9 (n := p.length) (by omega)
  have e2 := numB_length_9 (n := a.length) (by omega)
  have e3 := numB_length_9 (n := b.length) (by omega)
  rw [listB_length]
  simp only [textsB_cons, List.length_append, textB_length, show textsB [] = [] from rfl, List.length_nil] at *
  omega
theorem at_2 (w : World) (q r : List UInt8) : StrsAt (some ⟨w.heap.size, 0, none⟩) [q, r] (w.alloc (.cells #[.string ⟨q.toArray⟩, .string ⟨r.toArray⟩] 9)) := by
  refine strsAt_own (B := w.heap.size) (c := 2) ?_
  exact World.ownsRow_lit (base := w.heap.size) (e := 9) (size := 1) w #[.string ⟨q.toArray⟩, .string ⟨r.toArray⟩] 2 (Nat.le_refl _) (by unfold maxLen; omega) rfl
end Go.Proofs.YtlgmlnhjanjplaaDoor
