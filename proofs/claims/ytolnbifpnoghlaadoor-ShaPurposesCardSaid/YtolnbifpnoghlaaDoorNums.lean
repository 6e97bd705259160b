/-
  Slices of numbers of the call's own; the document's own primes, Numbers, known, NumbersAre.
-/
import Derived.Test.YtolnbifpnoghlaaDoorRoots
namespace Go.Proofs.YtolnbifpnoghlaaDoor
open Go.RowKit

/-- Numbers as cells. -/
def nums (k : IntKind) (l : List Nat) : List Value := l.map fun (n : Nat) => Value.int k (n : Int)
theorem nums_snoc (k : IntKind) (l : List Nat) (n : Nat) : nums k (l ++ [n]) = nums k l ++ [.int k (n : Int)] := by simp [nums]

def OwnN (B : Nat) (e : TypeId) (k : IntKind) (v : Value) (l : List Nat) (w : World) : Prop := w.ownsRow B e 1 v l.length (nums k l)
def NumsAt (ao : Option Addr) (k : IntKind) (l : List Nat) (w : World) : Prop :=
  l = [] ∨ ∃ b o, ao = some ⟨b, o, none⟩ ∧ b < w.heap.size ∧ ∀ j (h : j < l.length), w.cell? ⟨b, o + j, none⟩ = some (.int k (l[j] : Int))

theorem OwnN.nil (B : Nat) (e : TypeId) (k : IntKind) (w : World) : OwnN B e k (.slice none 0 0) [] w := World.ownsRow_nil _ _ _ _
theorem OwnN.form {B : Nat} {e : TypeId} {k : IntKind} {v : Value} {l : List Nat} {w : World} (h : OwnN B e k v l w) : ∃ ao cap, v = .slice ao l.length cap := by
  rcases h.2 with ⟨hv, h0⟩ | ⟨g, cap, cur, hv, _⟩
  · exact ⟨none, 0, by rw [hv, h0]⟩
  · exact ⟨_, _, hv⟩
theorem OwnN.below {B : Nat} {e : TypeId} {k : IntKind} {v : Value} {l : List Nat} {w w' : World} (h : OwnN B e k v l w) (b : Below w.heap.size w w') : OwnN B e k v l w' := by
  refine World.ownsRow.kept (row := none) h ⟨b.os, b.tape, b.output, b.size, fun i hi _ => b.block i hi⟩ ?_
  rcases h.2 with ⟨hv, _⟩ | ⟨g, cap, cur, hv, hg, _⟩
  · exact Or.inl (by rw [hv]; rfl)
  · exact Or.inr (by rw [hv]; simp [Value.ownBlock])
theorem OwnN.mono {B B' : Nat} {e : TypeId} {k : IntKind} {v : Value} {l : List Nat} {w : World} (h : OwnN B e k v l w) (hB : B' ≤ B) : OwnN B' e k v l w := by
  refine ⟨h.1, ?_⟩
  rcases h.2 with h0 | ⟨g, cap, cur, hv, hg, r⟩
  · exact Or.inl h0
  · exact Or.inr ⟨g, cap, cur, hv, by omega, r⟩
theorem OwnN.at {B : Nat} {e : TypeId} {k : IntKind} {ao : Option Addr} {c : Nat} {l : List Nat} {w : World} (h : OwnN B e k (.slice ao l.length c) l w) : NumsAt ao k l w := by
  rcases h.2 with ⟨_, h0⟩ | ⟨g, cap, cur, hv, hg, hb, hcap, hm, hcs, htk⟩
  · exact Or.inl (List.length_eq_zero_iff.1 h0)
  · simp only [Value.slice.injEq] at hv
    obtain ⟨rfl, _, rfl⟩ := hv
    refine Or.inr ⟨g, 0, rfl, lt_of_block hb, fun j hj => ?_⟩
    have := Lib.cell_of_heap hb (0 + j)
    rw [this]
    have e := congrArg (fun x => x[j]?) htk
    simp only [List.getElem?_take] at e
    rw [if_pos (by omega)] at e
    rw [Nat.zero_add, ← Array.getElem?_toList, e, nums]
    simp [List.getElem?_eq_getElem hj]
theorem NumsAt.below {ao : Option Addr} {k : IntKind} {l : List Nat} {w w' : World} (h : NumsAt ao k l w) (b : Below w.heap.size w w') : NumsAt ao k l w' := by
  rcases h with h | ⟨c, o, ha, hb, hc⟩
  · exact Or.inl h
  · exact Or.inr ⟨c, o, ha, Nat.lt_of_lt_of_le hb b.size, fun j hj => (b.cell (p := ⟨c, o + j, none⟩) hb).trans (hc j hj)⟩
theorem NumsAt.cell {ao : Option Addr} {k : IntKind} {l : List Nat} {w : World} (h : NumsAt ao k l w) {q : Nat} (hq : q < l.length) : ∃ b o, ao = some ⟨b, o, none⟩ ∧ w.cell? ⟨b, o + q, none⟩ = some (.int k (l[q] : Int)) := by
  rcases h with h | ⟨b, o, ha, hb, hc⟩
  · subst h; simp at hq
  · exact ⟨b, o, ha, hc q hq⟩

/-- The primes below i + 2. -/
def pst : Nat → List Nat
  | 0 => []
  | i + 1 => if (pst i).all (fun q => (i + 2) % q != 0) then pst i ++ [i + 2] else pst i
theorem pst_yes {i : Nat} (h : (pst i).all (fun q => (i + 2) % q != 0) = true) : pst (i + 1) = pst i ++ [i + 2] := by rw [pst, if_pos h]
theorem pst_no {i : Nat} (h : (pst i).all (fun q => (i + 2) % q != 0) = false) : pst (i + 1) = pst i := by rw [pst, if_neg (by simp [h])]
theorem pst_mem (i : Nat) : ∀ q ∈ pst i, 2 ≤ q ∧ q ≤ i + 1 := by
  induction i with
  | zero => intro q h; cases h
  | succ i ih =>
    intro q h
    cases ha : (pst i).all (fun q => (i + 2) % q != 0) with
    | true =>
      rw [pst_yes ha, List.mem_append] at h
      rcases h with h | h
      · have := ih q h; omega
      · simp at h; omega
    | false => rw [pst_no ha] at h; have := ih q h; omega
theorem pst_le (i : Nat) : (pst i).length ≤ (pst (i + 1)).length := by
  cases ha : (pst i).all (fun q => (i + 2) % q != 0) with
  | true => rw [pst_yes ha]; simp
  | false => rw [pst_no ha]; exact Nat.le_refl _
theorem pst_mono {i j : Nat} (h : i ≤ j) : (pst i).length ≤ (pst j).length := by
  induction j with
  | zero => have : i = 0 := by omega
            subst this; exact Nat.le_refl _
  | succ j ih =>
    by_cases e : i = j + 1
    · subst e; exact Nat.le_refl _
    · exact Nat.le_trans (ih (by omega)) (pst_le j)
theorem pst_309 : (pst 309).length = 63 := by decide +kernel
theorem pst_310 : (pst 310).length = 64 := by decide +kernel

theorem all_take (l : List Nat) (f : Nat → Bool) (j : Nat) (h : j < l.length) : (l.take (j + 1)).all f = ((l.take j).all f && f l[j]) := by
  rw [List.take_succ_eq_append_getElem h, List.all_append]; simp

theorem Tryd.infoU64 : (Tryd.prog.info? 54).map (fun i => (i.zero, i.size, i.bytes)) = some (some (.int .u64 0), 1, 8) := by kernel_rfl
theorem Tryd.infoU32 : (Tryd.prog.info? 46).map (fun i => (i.zero, i.size, i.bytes)) = some (some (.int .u32 0), 1, 4) := by kernel_rfl

set_option maxHeartbeats 2000000 in
theorem primes_any (w : World) :
    Calls Tryd.prog 32 #[.int .i64 64] w fun e w' => ∃ v, e = .returned v ∧ OwnN w.heap.size 54 .u64 v (pst 310) w' ∧ Below w.heap.size w w' := by
  obtain ⟨i0, hi, hz0, hz1, hz2⟩ := info_parts Tryd.infoU64
  go_enter Tryd.func32, Tryd.ntmps32
  go_wp2_with fail
  go_loopw [3, 4] (fun v p wr => ∃ i : Nat, i ≤ 310 ∧ p = .int .u64 ((i : Int) + 2) ∧ OwnN w.heap.size 54 .u64 v (pst i) wr ∧ Below w.heap.size w wr) (fun _ p _ => 312 - (intOf p).toNat)
  case atStart => exact ⟨0, by omega, rfl, OwnN.nil _ _ _ _, Below.refl _ _⟩
  case round =>
    obtain ⟨i, hi2, rfl, hown, hbel⟩ := hrel
    obtain ⟨ao, cap, hv⟩ := hown.form
    subst hv
    have HO := Lib.hid hown
    have HB := Lib.hid hbel
    clear hown hbel
    by_cases hlt : i < 310
    · have hll : (pst i).length ≤ 63 := by have := pst_mono (i := i) (j := 309) (by omega); rw [pst_309] at this; exact this
      have hmem := Lib.hid (pst_mem i)
      have hat := Lib.hid HO.out.at
      have HY := Lib.hid (@pst_yes i)
      have HN := Lib.hid (@pst_no i)
      generalize pst i = l at *
      go_wp2_with fail
      go_loopw [5, 16] (fun b j wq => ∃ q : Nat, q ≤ l.length ∧ j = .int .i64 q ∧ b = .bool ((l.take q).all (fun q => (i + 2) % q != 0)) ∧ wq = wr) (fun _ j _ => l.length - (intOf j).toNat)
      case atStart => exact ⟨0, Nat.zero_le _, rfl, rfl, rfl⟩
      case round =>
        obtain ⟨q, hq, rfl, rfl, rfl⟩ := hrel
        by_cases hql : q < l.length
        · obtain ⟨xb, xo, hxe, hxc⟩ := hat.out.cell hql
          subst hxe
          have hm := hmem.out _ (List.getElem_mem hql)
          have HA := Lib.hid (all_take l (fun q => (i + 2) % q != 0) q hql)
          generalize l[q] = x at *
          cases hb : (l.take q).all (fun q => (i + 2) % q != 0) with
          | false =>
            have HR := Lib.hid (HA.out.trans (by rw [hb]))
            clear hb HA
            go_wp2_with fail
            exact ⟨⟨q + 1, by omega, by go_num, by rw [HR.out]; simp, trivial⟩, by simp [intOf]; omega⟩
          | true =>
            cases hd : ((i + 2) % x != 0) with
            | true =>
              have HR := Lib.hid (HA.out.trans (by rw [hb, hd]))
              have ht : (((i : Int) + 2) % (x : Int) != 0) = true := by
                have e : ((i : Int) + 2) % (x : Int) = (((i + 2) % x : Nat) : Int) := by simp
                have := bne_iff_ne.1 hd
                rw [bne_iff_ne, e]
                omega
              clear hb hd HA
              go_wp2_with fail
              exact ⟨⟨q + 1, by omega, by go_num, by rw [HR.out]; simp, trivial⟩, by simp [intOf]; omega⟩
            | false =>
              have HR := Lib.hid (HA.out.trans (by rw [hb, hd]))
              have ht : (((i : Int) + 2) % (x : Int) != 0) = false := by
                have e : ((i : Int) + 2) % (x : Int) = (((i + 2) % x : Nat) : Int) := by simp
                have := bne_eq_false_iff_eq.1 hd
                rw [bne_eq_false_iff_eq, e]
                omega
              clear hb hd HA
              go_wp2_with fail
              exact ⟨⟨q + 1, by omega, by go_num, by rw [HR.out]; simp, trivial⟩, by simp [intOf]; omega⟩
        · obtain rfl : q = l.length := by omega
          rw [List.take_length]
          cases hb : l.all (fun q => (i + 2) % q != 0) with
          | false =>
            have HR := Lib.hid (HN.out hb)
            go_wp2_with fail
            exact ⟨⟨i + 1, by omega, by go_num, by rw [HR.out]; exact HO.out, HB.out⟩, by simp [intOf]; omega⟩
          | true =>
            have HR := Lib.hid (HY.out hb)
            have hsz := HB.out.size
            clear hb hat
            go_wp2_with (at_builtin; refine wpList_append_own _ rfl _ _ 61 rfl w.heap.size 54 i0 (.int .u64 0) 1 8 Tryd.underlying61 hi hz0 hz1 hz2 rfl (by decide) _ _ _ rfl (World.ownsRow.alloc HO.out _) ⟨wr.heap.size, 0, none⟩ 1 1 [.int .u64 ((i : Int) + 2)] rfl rfl ?c1 ?c2 ?c3 ?c4 ?c5 ?_)
            case c1 =>
              intro j u hj
              match j, hj with
              | 0, hj => simp at hj; subst hj; simp [Addr.add]
            case c2 => intro u hu; simp at hu; subst hu; rfl
            case c3 => unfold maxLen; omega
            case c4 => omega
            case c5 => simp; omega
            intro v' w3 hown' hgrow _
            have hrow : ∀ g, (Value.slice ao l.length cap).ownBlock = some g → w.heap.size ≤ g := fun g hg => (HO.out.lt g hg).1
            have HB3 := Lib.hid ((HB.out.alloc hsz _).grown hgrow (by simp; omega) hrow)
            have HO3 := Lib.hid (show OwnN w.heap.size 54 .u64 v' (l ++ [i + 2]) w3 by
              unfold OwnN
              rw [nums_snoc, List.length_append]
              exact hown')
            clear hown' hgrow hrow HO HB hsz
            go_wp2_with fail
            exact ⟨⟨i + 1, by omega, by go_num, by rw [HR.out]; exact HO3.out, HB3.out⟩, by simp [intOf]; omega⟩
    · obtain rfl : i = 310 := by omega
      have hl := pst_310
      clear hlt hi2
      generalize hp : pst 310 = l at *
      have HP := Lib.hid hp
      clear hp
      go_wp2_with fail
      go_ret
      exact ⟨_, rfl, by rw [HP.out]; exact HO.out, HB.out⟩
end Go.Proofs.YtolnbifpnoghlaaDoor
