/-
  Names pushed onto a row of the call's own, in a region whose order is open; the rows of 32 bytes of a text, one by one.
-/
import Derived.Test.YthgfpojfnhkckaaOpRow
namespace Go.Proofs.Ythgfpojfnhkckaa
open Go.RowKit Go.BigFrame

theorem op_push_id {P : Program} {o : Oper} {a : Act} {w : World} {K : Act → World → Prop} {Q : Exit → Act → World → Prop} (s x : Operand) (t e : TypeId) (ho : o.op = .call { callee := .builtin .append, args := #[s, x], argTypes := #[t, t] })
    (B : Nat) (z : Value) (hzs : z.cells.size = 32) (ht : P.underlying t = some (.slice e)) (hinfo : (P.info? e).map (fun i => (i.zero, i.size, i.bytes)) = some (some z, 32, 32))
    (v : Value) (L : List (List Nat)) (y : List Nat) (hy : IdOk y) (ad : Addr) (c : Nat) (hs : a.eval s = v) (hown : OwnI B e v L w) (hx : a.eval x = .slice (some ad) 1 c) (hnews : ∀ j q, (nums .u8 y)[j]? = some q → w.cell? (ad.add j) = some q)
    (h63 : L.length ≤ 1000000) (hB : B ≤ w.heap.size)
    (h : ∀ v' w', OwnI B e v' (L ++ [y]) w' → Below B w w' → K (a.put o.dst v') w') : OpWp P o a w K Q := by
  obtain ⟨i, hi, hz0, hz1, hz2⟩ := info_parts hinfo
  obtain ⟨v', w', hr, h2, h3, _, _⟩ := run_append_own_at (P := P) w B t o.type e i z 32 32 ht hi hz0 hz1 hz2 hzs (by decide) v L.length (flatI L) hown ad 1 c (nums .u8 y) (by rw [nums_len, hy.1]) hnews (nums_one _ _) (by unfold maxLen; omega)
    (by omega) hB
  refine ⟨?_⟩
  unfold Oper.wp execOp
  simp only [ho, resolve, invoke, builtin, Sem.run_bind, Sem.run_pure, Result.andThen_ok, List.map_toArray, List.map_cons, List.map_nil, hs, hx, hr]
  refine h v' w' ?_ ((Below.refl B w).grown h3 hB (fun k hk => (World.ownsRow.lt hown k hk).1))
  show w'.ownsRow B e 32 v' (L ++ [y]).length (flatI (L ++ [y]))
  rw [List.length_append, flatI_append, flatI_one]
  exact h2
theorem idsOf_snoc : ∀ (k : Nat) (s : List UInt8), idsOf (k + 1) s = idsOf k s ++ [byteNs ((s.drop (32 * k)).take 32)]
  | 0, s => by simp [idsOf]
  | k + 1, s => by
    rw [idsOf, idsOf_snoc k (s.drop 32), idsOf, List.drop_drop, List.cons_append, show 32 + 32 * k = 32 * (k + 1) by omega]
/-- A text's part as the walk writes it. -/
theorem text_part (s : List UInt8) (i : Nat) : (⟨s.toArray⟩ : ByteArray).extract i (i + 32) = ⟨((s.drop i).take 32).toArray⟩ := by
  apply ByteArray.ext
  simp only [ByteArray.data_extract]
  rw [List.extract_toArray]
  congr 1
  rw [List.extract_eq_take_drop, Nat.add_sub_cancel_left]
theorem opV_preds {d : DraftN} {a b : Int} {L M : List (List Nat)} {n : Nat} (hr : d.ref.length = 32) (hn : M.length = n) (pa pb : Option Addr) (pc pd : Nat) : (opV ⟨d, a, b, L⟩ pa pc).setIfInBounds 37 (.slice pb n pd) = opV ⟨d, a, b, M⟩ pb pd := by
  subst hn
  rw [opV, opV, opL, opL, List.setIfInBounds_toArray, List.set_append_right _ _ (by rw [draftL_len hr]; decide), draftL_len hr]
  rfl
end Go.Proofs.Ythgfpojfnhkckaa
