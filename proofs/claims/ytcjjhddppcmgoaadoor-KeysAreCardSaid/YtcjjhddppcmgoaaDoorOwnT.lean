/-
  Bytes of a text, turned: []byte(s), b[i] ^= c, string(b).
-/
import Derived.Test.YtcjjhddppcmgoaaDoorNode
namespace Go.Proofs.YtcjjhddppcmgoaaDoor
open Go.RowKit Go.BigFrame

theorem OwnT.frozen {B g n c : Nat} {e : TypeId} {k : IntKind} {l : List Nat} {w : World} (h : OwnT B e k (.slice (some ⟨g, 0, none⟩) n c) l w) {j : Nat} (hj : j < l.length) : w.frozen? ⟨g, j, none⟩ = false := by
  obtain ⟨g', cap, cur, fz, hv, hb, hg, hfz, hlc, hcm, hcs, htk⟩ := h
  simp only [Value.slice.injEq, Option.some.injEq, Addr.mk.injEq, and_true] at hv
  obtain ⟨rfl, _, rfl⟩ := hv
  obtain ⟨f1, f2⟩ := fz
  simp only [World.frozen?, hg]
  simp only at hfz
  rcases hfz with h | h
  · simp; omega
  · simp; omega
theorem OwnT.set {B g n c : Nat} {e : TypeId} {k : IntKind} {l : List Nat} {w : World} (h : OwnT B e k (.slice (some ⟨g, 0, none⟩) n c) l w) {j : Nat} (_hj : j < l.length) (x : Nat) :
    OwnT B e k (.slice (some ⟨g, 0, none⟩) n c) (l.set j x) (w.setCell ⟨g, j, none⟩ (.int k (x : Int))) := by
  obtain ⟨g', cap, cur, fz, hv, hb, hg, hfz, hlc, hcm, hcs, htk⟩ := h
  have hv2 := hv
  simp only [Value.slice.injEq, Option.some.injEq, Addr.mk.injEq, and_true] at hv2
  obtain ⟨rfl, hn, rfl⟩ := hv2
  refine ⟨g, c, cur.setIfInBounds j (.int k (x : Int)), fz, by rw [List.length_set, hn], hb, heap_setCell_at hg, hfz, by rw [List.length_set]; exact hlc, hcm, by simp [hcs], ?_⟩
  rw [List.length_set, Array.toList_setIfInBounds, List.take_set, htk, nums_set]
theorem conv_ownT {B g c : Nat} {l : List Nat} {w : World} (hlt : ∀ x ∈ l, x < 256) (h : OwnT B 5 .u8 (.slice (some ⟨g, 0, none⟩) l.length c) l w) :
    (convert 44 9 (.slice (some ⟨g, 0, none⟩) l.length c)).run Tryd.prog w = .ok (.string ⟨(txt l).toArray⟩) w := by
  have hlen : l.length = (txt l).length := (txt_len _).symm
  rw [hlen]
  refine run_convert_bytes_back _ _ _ 5 ⟨g, 0, none⟩ _ (txt l) Tryd.underlying44 Tryd.underlying5 Tryd.underlying9 ?_
  intro j hj
  rw [txt_len] at hj
  rw [Addr.add_lit, Nat.zero_add, h.cells rfl j hj]
  have h1 := hlt _ (List.getElem_mem hj)
  simp only [txt, List.getElem_map]
  rw [show (UInt8.ofNat l[j]).toNat = l[j] by simp; omega]
theorem quiet_convert6 {P : Program} {o : Oper} {a : Act} {C : World → Prop} {K : Act → Prop} (t u : TypeId) (x : Operand) (ho : o.op = .convert t u x) (v r : Value) (hx : a.eval x = v)
    (hC : ∀ w, C w → (convert t u v).run P w = .ok r w) (hk : K (a.put o.dst r)) : o.quiet P a C K := by
  refine ⟨_, fun w hw => ?_, hk⟩
  unfold Oper.quietAt execOp
  simp only [ho, hx, Sem.run_bind, hC w hw, Result.andThen_ok, Sem.run_pure]
  exact ⟨rfl, rfl⟩
theorem nodeV_set (r : List Nat) (h : Int) {j : Nat} (hj : j < r.length) (x : Nat) : (nodeV r h).setIfInBounds j (.int .u8 (x : Int)) = nodeV (r.set j x) h := by
  rw [nodeV, nodeV, List.setIfInBounds_toArray, List.set_append_left _ _ (by rw [nums_len]; exact hj), nums_set]
theorem node_byte {g : Nat} {t : TypeId} {root : List Nat} {h : Int} {w : World} (hc : Cells g t (nodeV root h) w) {j : Nat} (hj : j < root.length) : w.cell? ⟨g, j, none⟩ = some (.int .u8 ((root.getD j 0 : Nat) : Int)) := by
  have h1 := node_root hc j (.int .u8 ((root.getD j 0 : Nat) : Int)) (by
    rw [nums, List.getElem?_map, List.getElem?_eq_getElem hj, List.getD_eq_getElem?_getD, List.getElem?_eq_getElem hj]
    rfl)
  rwa [Nat.zero_add] at h1
theorem node_set {g : Nat} {t : TypeId} {root : List Nat} {h : Int} {w : World} (hc : Cells g t (nodeV root h) w) {j : Nat} (hj : j < root.length) (x : Nat) : Cells g t (nodeV (root.set j x) h) (w.setCell ⟨g, j, none⟩ (.int .u8 (x : Int))) := by
  have e := heap_setCell_at (o := j) (v := .int .u8 (x : Int)) hc
  rw [nodeV_set root h hj x] at e
  exact e
end Go.Proofs.YtcjjhddppcmgoaaDoor
