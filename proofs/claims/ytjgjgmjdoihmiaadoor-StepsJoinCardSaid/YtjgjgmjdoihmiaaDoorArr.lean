/-
  Arrays of bytes compared and read; the worlds of a statement that reads, and calls what makes memory.
-/
import Derived.Test.YtjgjgmjdoihmiaaDoorSum
import Derived.Test.YtjgjgmjdoihmiaaDoorCut
import Derived.Test.YtjgjgmjdoihmiaaDoorHexM
import Derived.Stop.BytesEq
import Derived.Deep.QuietTactic
import Derived.BigQuiet
namespace Go.Proofs.YtjgjgmjdoihmiaaDoor
open Go.RowKit

theorem shaN_lt (s : List UInt8) : ∀ x ∈ shaN s, x < 256 := by
  intro x hx
  simp only [shaN, outN, List.mem_map] at hx
  obtain ⟨i, _, rfl⟩ := hx
  exact Nat.mod_lt _ (by decide)

theorem Tryd.infoA : (Tryd.prog.info? 42).map (fun i => i.size) = some 32 := by kernel_rfl
/-- Two arrays of bytes are compared. -/
theorem cells_txt {l : List Nat} (h : ∀ x ∈ l, x < 256) : nums .u8 l = (txt l).map Extern.Stop.cell := by
  have e : (txt l).map Extern.Stop.cell = nums .u8 (byteNs (txt l)) := (byteNs_nums (txt l)).symm
  rw [e, byteNs_txt h]
theorem txt_beq {a b : List Nat} (la : ∀ x ∈ a, x < 256) (lb : ∀ x ∈ b, x < 256) : (txt a == txt b) = (a == b) := by
  rw [Bool.eq_iff_iff, beq_iff_eq, beq_iff_eq]
  exact ⟨txt_inj la lb, fun h => by rw [h]⟩
theorem equal_nums {P : Program} (t e : TypeId) (n : Nat) (ht : P.underlying t = some (.array n e)) (he : P.underlying e = some (.int .u8)) (hsz : ∀ w, (sizeOf e).run P w = .ok 1 w)
    (a b : List Nat) (ha : a.length = n) (hb : b.length = n) (la : ∀ x ∈ a, x < 256) (lb : ∀ x ∈ b, x < 256) (w : World) :
    (Op.equalIn 10000 t (.agg (nums .u8 a).toArray) (.agg (nums .u8 b).toArray)).run P w = .ok (a == b) w := by
  rw [cells_txt la, cells_txt lb, run_equalIn_bytes w 9998 t e n ht he hsz (txt a) (txt b) (by rw [txt_len, ha]) (by rw [txt_len, hb]), txt_beq la lb]
theorem equal_id (a b : List Nat) (ha : a.length = 32) (hb : b.length = 32) (la : ∀ x ∈ a, x < 256) (lb : ∀ x ∈ b, x < 256) (w : World) :
    (Op.equalIn 10000 43 (.agg (nums .u8 a).toArray) (.agg (nums .u8 b).toArray)).run Tryd.prog w = .ok (a == b) w :=
  equal_nums _ _ _ Tryd.underlying43 Tryd.underlying5 Tryd.sizeOf5 a b ha hb la lb w
theorem equal_sha (s t : List UInt8) (w : World) : (Op.equalIn 10000 43 (.agg (nums .u8 (shaN s)).toArray) (.agg (nums .u8 (shaN t)).toArray)).run Tryd.prog w = .ok (shaN s == shaN t) w :=
  equal_id _ _ (shaN_len s) (shaN_len t) (shaN_lt s) (shaN_lt t) w
/-- What holds of each world of a statement that reads, and calls what makes memory. -/
def SS (w1 w' : World) : Prop := Below w1.heap.size w1 w' ∧ KAt w'
theorem SS.start {w1 : World} (h : KAt w1) : SS w1 w1.drew := ⟨(Below.refl _ _).drew, h⟩
theorem SS.next {w1 wp w' : World} (h : SS w1 wp) (hb : Below wp.heap.size wp w') : SS w1 w' := ⟨h.1.trans (hb.mono h.1.size), h.2.below hb⟩
/-- One walk in the text's order serves every order: at a class of worlds of one's own. -/
theorem wp_region_class {P : Program} {id : Nat} {Q : Exit → Act → World → Prop} {a : Act} {w : World} {l : List Oper} (C : World → Prop) (hm : P.follows .mixedOrders = true) (hB : Region.lexB .any l.toArray = true) (hC : C w.drew)
    (h : wpQuiet P l.toArray C (fun a' => ∀ w', C w' → Q .normal a' w') l a) : (Code.region id l.toArray true).wp P Q a w :=
  wp_region_quiet (C := C) hm hB hC (by simpa using h)
/-- An array of numbers is read, in a region whose order is open. -/
theorem quiet_load_nums {P : Program} {o : Oper} {a : Act} {C : World → Prop} {K : Act → Prop} (ty : TypeId) (x : Operand) (ho : o.op = .load ty x) (b : Nat) (k : IntKind) (l : List Nat) (t : TypeId) (d : TypeDesc)
    (hx : a.eval x = .pointer (some ⟨b, 0, none⟩)) (hC : ∀ w, C w → Blk b t k l w) (hu : P.underlying ty = some d) (hd : (match d with | .struct _ | .array _ _ => true | _ => false) = true) (hi : (P.info? ty).map (·.size) = some l.length)
    (hk : K (a.put o.dst (.agg (nums k l).toArray))) : o.quiet P a C K := by
  refine ⟨_, fun w hw => ?_, hk⟩
  unfold Oper.quietAt execOp
  simp only [ho, hx, Instr.loadAt, Instr.sureAddr, Sem.run_bind, Sem.run_pure, Result.andThen_ok, run_loadVar_row w b t ty _ (0, 0) d (hC w hw) hu hd (by rw [nums_size]; exact hi)]
  exact ⟨rfl, rfl⟩
end Go.Proofs.YtjgjgmjdoihmiaaDoor
