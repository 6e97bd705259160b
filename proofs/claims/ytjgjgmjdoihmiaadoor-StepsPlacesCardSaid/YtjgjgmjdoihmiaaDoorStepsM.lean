/-
  Chains and digits, as plain mathematics; places; a step's three parts.
-/
import Derived.Test.YtjgjgmjdoihmiaaDoorArr
import Derived.Test.YtjgjgmjdoihmiaaDoorClassTail
import Derived.Test.YtjgjgmjdoihmiaaDoorRefnum
namespace Go.Proofs.YtjgjgmjdoihmiaaDoor
open Go.RowKit

/-- A place's bytes. -/
def placeB (i c : Int) : List UInt8 := numB i.toNat ++ numB c.toNat
theorem placeB_len {i c : Int} (hi : i ≤ 9223372036854775807) (hc : c ≤ 9223372036854775807) : (placeB i c).length ≤ 18 := by
  have h1 := numB_length_9 (n := i.toNat) (by omega)
  have h2 := numB_length_9 (n := c.toNat) (by omega)
  rw [placeB, List.length_append]
  omega
/-- The next step. -/
def nextN (x : List Nat) (s : Nat) (pl : List UInt8) : List Nat := (shaN (listB [[115], txt x, numB s, pl])).take 16
theorem nextN_len (x : List Nat) (s : Nat) (pl : List UInt8) : (nextN x s pl).length = 16 := by
  rw [nextN, List.length_take, shaN_len]; rfl
theorem nextN_lt (x : List Nat) (s : Nat) (pl : List UInt8) : ∀ y ∈ nextN x s pl, y < 256 := fun y hy => shaN_lt _ y (List.mem_of_mem_take hy)
/-- k steps from the step s. -/
def walkN (x : List Nat) (pl : List UInt8) (s : Nat) : Nat → List Nat
  | 0 => x
  | k + 1 => nextN (walkN x pl s k) (s + k) pl
theorem walkN_len {x : List Nat} (hx : x.length = 16) (pl : List UInt8) (s k : Nat) : (walkN x pl s k).length = 16 := by
  cases k with
  | zero => exact hx
  | succ k => exact nextN_len _ _ _
theorem walkN_lt {x : List Nat} (hx : ∀ y ∈ x, y < 256) (pl : List UInt8) (s k : Nat) : ∀ y ∈ walkN x pl s k, y < 256 := by
  cases k with
  | zero => exact hx
  | succ k => exact nextN_lt _ _ _
theorem walkN_add (x : List Nat) (pl : List UInt8) (s j k : Nat) : walkN (walkN x pl s j) pl (s + j) k = walkN x pl s (j + k) := by
  induction k with
  | zero => rfl
  | succ k ih => rw [← Nat.add_assoc, walkN, walkN, ih, Nat.add_assoc]
/-- What a walk answers. -/
def walkI (x : List Nat) (pl : List UInt8) (a b : Int) : List Nat := walkN x pl (max a 0).toNat ((min b 15).toNat - (max a 0).toNat)

theorem parts3_small {x : List Nat} (hx : x.length = 16) {s : Nat} (hs : s < 9223372036854775808) {pl : List UInt8} (hp : pl.length ≤ 18) : (listB [[115], txt x, numB s, pl]).length ≤ 140737488350000 := by
  have h1 := numB_length_9 hs
  have h2 := numB_length_9 (n := [[115], txt x, numB s, pl].length) (by simp)
  have h3 : (textsB [[115], txt x, numB s, pl]).length ≤ 1000 := by
    have e1 := numB_length_9 (n := (txt x).length) (by rw [txt_len, hx]; decide)
    have e2 := numB_length_9 (n := (numB s).length) (by omega)
    have e3 := numB_length_9 (n := pl.length) (by omega)
    have e4 := numB_length_9 (n := ([115] : List UInt8).length) (by decide)
    simp only [textsB_cons, List.length_append, textB_length, txt_len, hx, List.length_cons, List.length_nil, show textsB [] = [] from rfl] at *
    omega
  rw [listB_length]
  omega

theorem at_three (w : World) (p q r : List UInt8) : StrsAt (some ⟨w.heap.size, 0, none⟩) [p, q, r] (w.alloc (.cells #[.string ⟨p.toArray⟩, .string ⟨q.toArray⟩, .string ⟨r.toArray⟩] 9)) := by
  refine strsAt_own (B := w.heap.size) (c := 3) ?_
  exact World.ownsRow_lit (base := w.heap.size) (e := 9) (size := 1) w #[.string ⟨p.toArray⟩, .string ⟨q.toArray⟩, .string ⟨r.toArray⟩] 3 (Nat.le_refl _) (by unfold maxLen; omega) rfl
theorem cat2 (l s : List UInt8) : (({ data := l.toArray } : ByteArray) ++ { data := s.toArray }) = { data := (l ++ s).toArray } := by
  rw [ByteArray.ext_iff]; simp

/-- A slice of a block's bytes is turned into a string, in a region whose order is open. -/
theorem quiet_conv_nums {P : Program} {o : Oper} {a : Act} {C : World → Prop} {K : Act → Prop} (src dst e : TypeId) (x : Operand) (ho : o.op = .convert src dst x) (b cap : Nat) (l : List Nat) (t : TypeId)
    (hx : a.eval x = .slice (some ⟨b, 0, none⟩) l.length cap) (hl : ∀ y ∈ l, y < 256) (hC : ∀ w, C w → Blk b t .u8 l w) (hs : P.underlying src = some (.slice e)) (he : P.underlying e = some (.int .u8)) (hd : P.underlying dst = some .string)
    (hk : K (a.put o.dst (.string ⟨(txt l).toArray⟩))) : o.quiet P a C K := by
  refine ⟨_, fun w hw => ?_, hk⟩
  have hc := run_convert_bytes_back (P := P) w src dst e ⟨b, 0, none⟩ cap (txt l) hs he hd (fun j hj => by
    rw [txt_len] at hj
    rw [Addr.add_lit, Nat.zero_add, (hC w hw).cell j hj, List.getD_eq_getElem?_getD, List.getElem?_eq_getElem hj]
    have h1 := hl _ (List.getElem_mem hj)
    simp only [txt, List.getElem_map, Option.getD_some]
    rw [show (UInt8.ofNat l[j]).toNat = l[j] by simp; omega])
  rw [txt_len] at hc
  unfold Oper.quietAt execOp
  simp only [ho, hx, Sem.run_bind, Sem.run_pure, hc, Result.andThen_ok]
  exact ⟨rfl, rfl⟩
theorem run_loadVar_cell {P : Program} (w : World) (ty : TypeId) (p : Addr) (v : Value) (hc : w.cell? p = some v) (hi : ∀ w, (isAgg ty).run P w = .ok false w) : (loadVar ty p).run P w = .ok v w := by
  simp [loadVar, hi, hc, go_sem]
/-- A cell of one value is read, in a region whose order is open. -/
theorem quiet_load_cell {P : Program} {o : Oper} {a : Act} {C : World → Prop} {K : Act → Prop} (ty : TypeId) (x : Operand) (ho : o.op = .load ty x) (p : Addr) (v : Value)
    (hx : a.eval x = .pointer (some p)) (hC : ∀ w, C w → w.cell? p = some v) (hi : ∀ w, (isAgg ty).run P w = .ok false w) (hk : K (a.put o.dst v)) : o.quiet P a C K := by
  refine ⟨_, fun w hw => ?_, hk⟩
  unfold Oper.quietAt execOp
  simp only [ho, hx, Instr.loadAt, Instr.sureAddr, Sem.run_bind, Sem.run_pure, Result.andThen_ok, run_loadVar_cell w ty p v (hC w hw) hi]
  exact ⟨rfl, rfl⟩
theorem Tryd.infoP : (Tryd.prog.info? 27).map (fun i => i.size) = some 2 := by kernel_rfl
end Go.Proofs.YtjgjgmjdoihmiaaDoor
