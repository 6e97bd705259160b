/-
  What the laws of layer 2 ask first: the digest of abc; what is too much to be played.
-/
import Derived.Test.YtolnbifpnoghlaaDoorSum
import Derived.Test.YtolnbifpnoghlaaDoorCut
import Derived.Test.YtolnbifpnoghlaaDoorHex
import Derived.Test.YtolnbifpnoghlaaDoorSame
import Derived.Stop.BytesEq
import Derived.Deep.QuietTactic
import Derived.BigQuiet
namespace Go.Proofs.YtolnbifpnoghlaaDoor
open Go.RowKit

theorem sha_abc : txt (hexL (shaN [97, 98, 99])) = [98, 97, 55, 56, 49, 54, 98, 102, 56, 102, 48, 49, 99, 102, 101, 97, 52, 49, 52, 49, 52, 48, 100, 101, 53, 100, 97, 101, 50, 50, 50, 51, 98, 48, 48, 51, 54, 49, 97, 51, 57, 54, 49, 55, 55, 97, 57, 99, 98, 52, 49, 48, 102, 102, 54, 49, 102, 50, 48, 48, 49, 53, 97, 100] := by decide +kernel
theorem shaN_lt (s : List UInt8) : ∀ x ∈ shaN s, x < 256 := by
  intro x hx
  simp only [shaN, outN, List.mem_map] at hx
  obtain ⟨i, _, rfl⟩ := hx
  exact Nat.mod_lt _ (by decide)

theorem Tryd.infoA : (Tryd.prog.info? 23).map (fun i => i.size) = some 32 := by kernel_rfl
/-- Two arrays of bytes are compared. -/
theorem cells_txt {l : List Nat} (h : ∀ x ∈ l, x < 256) : nums .u8 l = (txt l).map Extern.Stop.cell := by
  have e : (txt l).map Extern.Stop.cell = nums .u8 (byteNs (txt l)) := (byteNs_nums (txt l)).symm
  rw [e, byteNs_txt h]
theorem txt_beq {a b : List Nat} (la : ∀ x ∈ a, x < 256) (lb : ∀ x ∈ b, x < 256) : (txt a == txt b) = (a == b) := by
  rw [Bool.eq_iff_iff, beq_iff_eq, beq_iff_eq]
  exact ⟨txt_inj la lb, fun h => by rw [h]⟩
theorem equal_nums {P : Program} (t e : TypeId) (n : Nat) (ht : P.underlying t = some (.array n e)) (he : P.underlying e = some (.int .u8)) (hsz : ∀ w, (sizeOf e).run P w = .ok 1 w)
    (a b : List Nat) (ha : a.length = n) (hb : b.length = n) (la : ∀ x ∈ a, x < 256) (lb : ∀ x ∈ b, x < 256) (w : World) :
    (Op.equalIn 10000 t (.agg (nums .u8 a).toArray) (.agg (nums .u8 b).toArray)).run P w = .ok (a == b) w := by
  rw [cells_txt la, cells_txt lb, run_equalIn_bytes w 9998 t e n ht he hsz (txt a) (txt b) (by rw [txt_len, ha]) (by rw [txt_len, hb]), txt_beq la lb]
theorem equal_id (a b : List Nat) (ha : a.length = 32) (hb : b.length = 32) (la : ∀ x ∈ a, x < 256) (lb : ∀ x ∈ b, x < 256) (w : World) :
    (Op.equalIn 10000 24 (.agg (nums .u8 a).toArray) (.agg (nums .u8 b).toArray)).run Tryd.prog w = .ok (a == b) w :=
  equal_nums _ _ _ Tryd.underlying24 Tryd.underlying5 Tryd.sizeOf5 a b ha hb la lb w
theorem equal_sha (s t : List UInt8) (w : World) : (Op.equalIn 10000 24 (.agg (nums .u8 (shaN s)).toArray) (.agg (nums .u8 (shaN t)).toArray)).run Tryd.prog w = .ok (shaN s == shaN t) w :=
  equal_id _ _ (shaN_len s) (shaN_len t) (shaN_lt s) (shaN_lt t) w
/-- What holds of each world of a statement that reads, and calls what makes memory. -/
def SS (w1 w' : World) : Prop := Below w1.heap.size w1 w' ∧ KAt w'
theorem SS.start {w1 : World} (h : KAt w1) : SS w1 w1.drew := ⟨(Below.refl _ _).drew, h⟩
theorem SS.next {w1 wp w' : World} (h : SS w1 wp) (hb : Below wp.heap.size wp w') : SS w1 w' := ⟨h.1.trans (hb.mono h.1.size), h.2.below hb⟩
/-- One walk in the text's order serves every order: at a class of worlds of one's own. -/
theorem wp_region_class {P : Program} {id : Nat} {Q : Exit → Act → World → Prop} {a : Act} {w : World} {l : List Oper} (C : World → Prop) (hm : P.follows .mixedOrders = true) (hB : Region.lexB .any l.toArray = true) (hC : C w.drew)
    (h : wpQuiet P l.toArray C (fun a' => ∀ w', C w' → Q .normal a' w') l a) : (Code.region id l.toArray true).wp P Q a w :=
  wp_region_quiet (C := C) hm hB hC (by simpa using h)
/-- An array of numbers is read, in a region whose order is open. -/
theorem quiet_load_nums {P : Program} {o : Oper} {a : Act} {C : World → Prop} {K : Act → Prop} (ty : TypeId) (x : Operand) (ho : o.op = .load ty x) (b : Nat) (k : IntKind) (l : List Nat) (t : TypeId) (d : TypeDesc)
    (hx : a.eval x = .pointer (some ⟨b, 0, none⟩)) (hC : ∀ w, C w → Blk b t k l w) (hu : P.underlying ty = some d) (hd : (match d with | .struct _ | .array _ _ => true | _ => false) = true) (hi : (P.info? ty).map (·.size) = some l.length)
    (hk : K (a.put o.dst (.agg (nums k l).toArray))) : o.quiet P a C K := by
  refine ⟨_, fun w hw => ?_, hk⟩
  unfold Oper.quietAt execOp
  simp only [ho, hx, Instr.loadAt, Instr.sureAddr, Sem.run_bind, Sem.run_pure, Result.andThen_ok, run_loadVar_row w b t ty _ (0, 0) d (hC w hw) hu hd (by rw [nums_size]; exact hi)]
  exact ⟨rfl, rfl⟩

/-- The bytes of texts, together. -/
def total2 (l : List (List UInt8)) : Nat := (l.map List.length).sum
theorem total2_snoc (l : List (List UInt8)) (t : List UInt8) : total2 (l ++ [t]) = total2 l + t.length := by simp [total2]
theorem total2_parts (l : List (List UInt8)) (q : Nat) (h : q < l.length) : total2 (l.take (q + 1)) = total2 (l.take q) + l[q].length := by
  rw [List.take_succ_eq_append_getElem h, total2_snoc]
theorem total2_take_le (l : List (List UInt8)) (q : Nat) : total2 (l.take q) ≤ total2 l := by
  have e : total2 l = total2 (l.take q) + total2 (l.drop q) := by
    have h2 := congrArg total2 (List.take_append_drop q l)
    rw [← h2]; simp only [total2, List.map_append, List.sum_append]
  omega
/-- More than is played. -/
def great2 (l : List (List UInt8)) : Bool := decide (4096 < total2 l ∨ 100 < l.length)
theorem great2_rest {l : List (List UInt8)} (h : total2 l ≤ 4096) : great2 l = decide ((100 : Int) < l.length) := by
  unfold great2
  rw [decide_eq_decide]
  omega

set_option maxHeartbeats 1000000 in
theorem great2_any (ao : Option Addr) (cap : Nat) (l : List (List UInt8)) (w : World) (h : StrsAt ao l w) (hl : l.length ≤ 9223372036854775807) (ht : ∀ t ∈ l, t.length ≤ 9223372036854700000) :
    Calls Tryd.prog 13 #[.slice ao l.length cap] w fun e w' => e = .returned (.bool (great2 l)) ∧ w = w' := by
  have HS := Lib.hid h
  have HT := Lib.hid ht
  clear h ht
  go_enter Tryd.func13, Tryd.ntmps13
  go_wp2_with fail
  go_loop [3, 8] (fun n i => ∃ q : Nat, q ≤ l.length ∧ i = .int .i64 q ∧ n = .int .i64 (total2 (l.take q)) ∧ total2 (l.take q) ≤ 4096) (fun _ i => l.length - (intOf i).toNat)
  case atStart => exact ⟨0, Nat.zero_le _, rfl, by simp [total2], by simp [total2]⟩
  case round =>
    obtain ⟨q, hq, rfl, rfl, htot⟩ := hrel
    by_cases hlt : q < l.length
    · have hcell : ∃ b o, ao = some ⟨b, o, none⟩ ∧ w.cell? ⟨b, o + q, none⟩ = some (.string ⟨l[q].toArray⟩) := by
        rcases HS.out with h | ⟨b, o, ha, hb, hc⟩
        · subst h; simp at hlt
        · exact ⟨b, o, ha, hc q hlt⟩
      obtain ⟨cb, co, hao, hc⟩ := hcell
      have hlq : l[q].length ≤ 9223372036854700000 := HT.out _ (List.getElem_mem hlt)
      have HP := Lib.hid (total2_parts l q hlt)
      have HL := Lib.hid (total2_take_le l (q + 1))
      subst hao
      by_cases hbig : 4096 < total2 (l.take q) + l[q].length
      · go_wp2_with fail
        go_ret
        refine ⟨?_, rfl⟩
        have : great2 l = true := by unfold great2; have := HP.out; have := HL.out; simp; omega
        rw [this]; rfl
      · go_wp2_with fail
        exact ⟨⟨q + 1, by omega, by go_num, by rw [HP.out]; go_num, by rw [HP.out]; omega⟩, by simp [intOf]; omega⟩
    · obtain rfl : q = l.length := by omega
      rw [List.take_length] at htot
      have HG := Lib.hid (great2_rest htot)
      go_wp2_with fail
      go_ret
      exact ⟨by rw [HG.out]; rfl, rfl⟩

theorem textsB_total2 {l : List (List UInt8)} (h : ∀ t ∈ l, t.length < 9223372036854775808) : (textsB l).length ≤ 9 * l.length + total2 l := by
  induction l with
  | nil => simp [textsB, total2]
  | cons t l ih =>
    have h1 := ih (fun t ht => h t (by simp [ht]))
    have h2 := numB_length_9 (h t (by simp))
    rw [textsB_cons, List.length_append, textB_length]
    simp only [total2, List.map_cons, List.sum_cons, List.length_cons] at h1 ⊢
    omega
theorem le_total2 {l : List (List UInt8)} {t : List UInt8} (h : t ∈ l) : t.length ≤ total2 l := by
  induction l with
  | nil => cases h
  | cons x l ih =>
    simp only [total2, List.map_cons, List.sum_cons]
    rcases List.mem_cons.1 h with rfl | h
    · omega
    · have := ih h; simp only [total2] at this; omega
/-- A list of a purpose and parts that may be played. -/
theorem great2_false {l : List (List UInt8)} (h : great2 l = false) : l.length ≤ 100 ∧ total2 l ≤ 4096 ∧ (∀ t ∈ l, t.length ≤ 4096) := by
  unfold great2 at h
  rw [decide_eq_false_iff_not] at h
  exact ⟨by omega, by omega, fun t ht => by have := le_total2 ht; omega⟩
theorem listB_small {p : List UInt8} {l : List (List UInt8)} (hp : p.length ≤ 1024) (h : great2 l = false) : (listB (p :: l)).length ≤ 10000 := by
  obtain ⟨h1, h2, h3⟩ := great2_false h
  have hb := textsB_total2 (l := p :: l) (fun t ht => by
    rcases List.mem_cons.1 ht with rfl | ht
    · omega
    · have := h3 t ht; omega)
  have h5 := numB_length_9 (n := (p :: l).length) (by simp; omega)
  rw [listB_length]
  simp only [total2, List.map_cons, List.sum_cons, List.length_cons] at hb h2 h5 ⊢
  omega
theorem listB_inj2 {p q : List UInt8} {a b : List (List UInt8)} (hp : p.length ≤ 1024) (hq : q.length ≤ 1024) (ha : great2 a = false) (hb : great2 b = false) (h : listB (p :: a) = listB (q :: b)) : p = q ∧ a = b := by
  obtain ⟨a1, _, a3⟩ := great2_false ha
  obtain ⟨b1, _, b3⟩ := great2_false hb
  have e1 := takeList_listB (l := p :: a) (by simp; omega) (fun t ht => by
    rcases List.mem_cons.1 ht with rfl | ht
    · omega
    · have := a3 t ht; omega) []
  have e2 := takeList_listB (l := q :: b) (by simp; omega) (fun t ht => by
    rcases List.mem_cons.1 ht with rfl | ht
    · omega
    · have := b3 t ht; omega) []
  rw [h, e2] at e1
  simp only [Option.some.injEq, Prod.mk.injEq, List.cons.injEq] at e1
  exact ⟨e1.1.1.symm, e1.1.2.symm⟩

set_option maxHeartbeats 4000000 in
set_option maxRecDepth 100000 in
theorem alive2_any (w : World) (hk : KAt w) :
    Calls Tryd.prog 9 #[] w fun e w' => e = .returned (.bool true) ∧ Below w.heap.size w w' := by
  have HK := Lib.hid hk
  clear hk
  go_enter Tryd.func9, Tryd.ntmps9
  go_wp2_with fail
  refine (dev_of [97, 98, 99] w (by decide) HK.out).mono ?_
  rintro e w1 ⟨rfl, hb1⟩
  have HB1 := Lib.hid hb1
  clear hb1
  go_wp2_with fail
  have hh := dev_hex (shaN [97, 98, 99]) w1 (shaN_len _) (shaN_lt _)
  rw [sha_abc] at hh
  refine hh.mono ?_
  rintro e w2 ⟨rfl, hb2⟩
  have HB2 := Lib.hid (HB1.out.trans (hb2.mono HB1.out.size))
  clear hb2 hh HB1
  go_wp2_with fail
  go_ret
  exact ⟨congrArg (fun b => Ending.returned (.bool b)) (by decide +kernel), HB2.out⟩
end Go.Proofs.YtolnbifpnoghlaaDoor
