/-
  Hexadecimal digits; arrays of bytes compared and read; the worlds of a statement.
-/
import Derived.Test.YtcjjhddppcmgoaaDoorBlocks
import Derived.Test.YtcjjhddppcmgoaaDoorSumCut
import Derived.Stop.BytesEq
import Derived.Deep.QuietTactic
import Derived.BigQuiet
/-! Hexadecimal digits, as plain mathematics. -/
namespace Go.Proofs.YtcjjhddppcmgoaaDoor
open Go.RowKit

/-- A digit's letter. -/
def hexN (n : Nat) : Nat := if n < 10 then 48 + n else 87 + n
theorem hexN_lt {n : Nat} (h : n < 16) : hexN n < 256 := by unfold hexN; split <;> omega
theorem hexN_inj : ∀ a b : Fin 16, hexN a.val = hexN b.val → a = b := by decide
/-- The digits of bytes. -/
def hexL : List Nat → List Nat
  | [] => []
  | x :: l => hexN (x / 16) :: hexN (x % 16) :: hexL l
theorem hexL_len (l : List Nat) : (hexL l).length = 2 * l.length := by
  induction l with
  | nil => rfl
  | cons x l ih => simp only [hexL, List.length_cons, ih]; omega
theorem hexL_append (l m : List Nat) : hexL (l ++ m) = hexL l ++ hexL m := by
  induction l with
  | nil => rfl
  | cons x l ih => simp [hexL, ih]
theorem hexL_take (l : List Nat) (k : Nat) : (hexL l).take (2 * k) = hexL (l.take k) := by
  induction l generalizing k with
  | nil => simp [hexL]
  | cons x l ih =>
    cases k with
    | zero => rfl
    | succ k =>
      rw [show 2 * (k + 1) = 2 * k + 1 + 1 by omega, List.take_succ_cons]
      simp only [hexL, List.take_succ_cons, ih]
theorem hexL_inj {l m : List Nat} (hl : ∀ x ∈ l, x < 256) (hm : ∀ x ∈ m, x < 256) (h : hexL l = hexL m) : l = m := by
  induction l generalizing m with
  | nil =>
    cases m with
    | nil => rfl
    | cons y m => simp [hexL] at h
  | cons x l ih =>
    cases m with
    | nil => simp [hexL] at h
    | cons y m =>
      simp only [hexL, List.cons.injEq] at h
      have hx := hl x (by simp)
      have hy := hm y (by simp)
      have e1 := congrArg Fin.val (hexN_inj ⟨x / 16, by omega⟩ ⟨y / 16, by omega⟩ h.1)
      have e2 := congrArg Fin.val (hexN_inj ⟨x % 16, by omega⟩ ⟨y % 16, by omega⟩ h.2.1)
      simp only at e1 e2
      obtain rfl : x = y := by omega
      rw [ih (fun z hz => hl z (by simp [hz])) (fun z hz => hm z (by simp [hz])) h.2.2]
theorem hexL_lt {l : List Nat} (hl : ∀ x ∈ l, x < 256) : ∀ x ∈ hexL l, x < 256 := by
  induction l with
  | nil => intro x h; cases h
  | cons y l ih =>
    intro x hx
    have hy := hl y (by simp)
    simp only [hexL, List.mem_cons] at hx
    rcases hx with rfl | rfl | hx
    · exact hexN_lt (by omega)
    · exact hexN_lt (by omega)
    · exact ih (fun z hz => hl z (by simp [hz])) x hx
/-- Numbers as a text. -/
def txt (l : List Nat) : List UInt8 := l.map UInt8.ofNat
theorem txt_len (l : List Nat) : (txt l).length = l.length := by simp [txt]
theorem byteNs_txt {l : List Nat} (h : ∀ x ∈ l, x < 256) : byteNs (txt l) = l := by
  induction l with
  | nil => rfl
  | cons y l ih =>
    have hy := h y (by simp)
    simp only [txt, byteNs, List.map_cons, List.map_map] at ih ⊢
    rw [ih (fun z hz => h z (by simp [hz]))]
    congr 1
    rw [UInt8.toNat_ofNat']
    omega
theorem byteNs_nums (s : List UInt8) : nums .u8 (byteNs s) = s.map fun b => Value.int .u8 (b.toNat : Int) := by simp [nums, byteNs]
theorem txt_inj {l m : List Nat} (hl : ∀ x ∈ l, x < 256) (hm : ∀ x ∈ m, x < 256) (h : txt l = txt m) : l = m := by
  rw [← byteNs_txt hl, ← byteNs_txt hm, h]
theorem txt_take (l : List Nat) (k : Nat) : (txt l).take k = txt (l.take k) := by simp [txt]
theorem txt_append (l m : List Nat) : txt (l ++ m) = txt l ++ txt m := by simp [txt]

/-- The letters, by their place. -/
theorem hex_at : ∀ n : Fin 16, (#[48, 49, 50, 51, 52, 53, 54, 55, 56, 57, 97, 98, 99, 100, 101, 102] : Array UInt8)[n.val]?.getD 0 = UInt8.ofNat (hexN n.val) := by decide
theorem hex_cut' : ∀ n : Fin 16, (⟨#[48, 49, 50, 51, 52, 53, 54, 55, 56, 57, 97, 98, 99, 100, 101, 102]⟩ : ByteArray).extract n.val (n.val + 1) = ⟨#[UInt8.ofNat (hexN n.val)]⟩ := by decide +kernel
theorem hex_cut {n : Nat} (h : n < 16) : (⟨#[48, 49, 50, 51, 52, 53, 54, 55, 56, 57, 97, 98, 99, 100, 101, 102]⟩ : ByteArray).extract n (n + 1) = ⟨(txt [hexN n]).toArray⟩ := hex_cut' ⟨n, h⟩
theorem run_hex_cut {P : Program} (t : TypeId) (h : P.underlying t = some .string) {n : Nat} (hn : n < 16) (w : World) :
    (Instr.slice t (.string ⟨#[48, 49, 50, 51, 52, 53, 54, 55, 56, 57, 97, 98, 99, 100, 101, 102]⟩) (some (.int .u8 (n : Int))) (some (.int .u8 ((n : Int) + 1))) none).run P w = .ok (.string ⟨(txt [hexN n]).toArray⟩) w := by
  have e : (⟨#[48, 49, 50, 51, 52, 53, 54, 55, 56, 57, 97, 98, 99, 100, 101, 102]⟩ : ByteArray).size = 16 := rfl
  rw [run_slice_string (P := P) w t _ .u8 .u8 (n : Int) ((n : Int) + 1) h (by omega) (by omega) (by rw [e]; omega)]
  rw [← hex_cut hn, show ((n : Int)).toNat = n by omega, show ((n : Int) + 1).toNat = n + 1 by omega]
theorem and_15' : ∀ n : Fin 256, bits BinOp.and IntKind.u8 (n.val : Int) 15 = ((n.val % 16 : Nat) : Int) := by decide +kernel
theorem and_15 (x : Nat) (h : x < 256) : bits BinOp.and IntKind.u8 (x : Int) 15 = ((x % 16 : Nat) : Int) := and_15' ⟨x, h⟩
theorem hex_byte : ∀ n : Fin 16, ((⟨#[48, 49, 50, 51, 52, 53, 54, 55, 56, 57, 97, 98, 99, 100, 101, 102]⟩ : ByteArray)[n.val]'n.isLt).toNat = hexN n.val := by decide
theorem run_hex_at {P : Program} (t : TypeId) (h : P.underlying t = some .string) {n : Nat} (hn : n < 16) (w : World) :
    (Instr.index t (.string ⟨#[48, 49, 50, 51, 52, 53, 54, 55, 56, 57, 97, 98, 99, 100, 101, 102]⟩) (.int .u8 (n : Int))).run P w = .ok (.int .u8 ((hexN n : Nat) : Int)) w := by
  have e : (⟨#[48, 49, 50, 51, 52, 53, 54, 55, 56, 57, 97, 98, 99, 100, 101, 102]⟩ : ByteArray).size = 16 := rfl
  rw [run_index_string (P := P) w t _ .u8 (n : Int) h, dif_pos ⟨by omega, by rw [e]; omega⟩, ← hex_byte ⟨n, hn⟩]
  rfl
theorem txt_cat (l m : List Nat) : (⟨(txt l).toArray⟩ : ByteArray) ++ ⟨(txt m).toArray⟩ = ⟨(txt (l ++ m)).toArray⟩ := by
  apply ByteArray.ext; rw [ByteArray.data_append]; simp [txt]
theorem hexL_next {l : List Nat} {k : Nat} (h : k < l.length) : hexL (l.take (k + 1)) = hexL (l.take k) ++ [hexN (l.getD k 0 / 16)] ++ [hexN (l.getD k 0 % 16)] := by
  rw [List.take_succ_eq_append_getElem h, hexL_append, List.getD_eq_getElem?_getD, List.getElem?_eq_getElem h]
  simp [hexL]

/-- Numbers pushed onto a row of the call's own, as one step of a region that draws its order. -/
theorem step_append_nums {P : Program} {ops : Array Oper} {o : Oper} {a : Act} {w : World} {K : Act → World → Prop} {Q : Exit → Act → World → Prop} {E : Prop} (hgd : o.guard = none) (s x : Operand) (t : TypeId)
    (ho : o.op = .call { callee := .builtin .append, args := #[s, x], argTypes := #[t, t] })
    (base : Nat) (e : TypeId) (i : TypeInfo) (bytes : Nat) (k : IntKind) (ht : P.underlying t = some (.slice e)) (hi : P.info? e = some i) (hz : i.zero = some (.int k 0)) (hsize : i.size = 1) (hby : i.bytes = bytes)
    (v : Value) (l m : List Nat) (hs : a.eval s = v) (hown : OwnN base e k v l w)
    (ad : Addr) (n c : Nat) (hn : n = m.length) (hx : a.eval x = .slice (some ad) n c) (hnews : ∀ j u, (nums k m)[j]? = some u → w.cell? (ad.add j) = some u)
    (h63 : l.length + m.length ≤ maxLen) (hbytes : (l.length + m.length) * bytes ≤ 140737488355328) (hbase : base ≤ w.heap.size)
    (h : ∀ v' w', Hid (OwnN base e k v' (l ++ m) w') → Hid (w.grownBy w' v.ownBlock) → K (a.put o.dst v') w') :
    if Region.wanted o (yielded ops a.tmps) = true then Oper.wp P o a w K Q else E := by
  have hw : Region.wanted o (yielded ops a.tmps) = true := by simp [Region.wanted, hgd]
  rw [if_pos hw]
  subst hn
  obtain ⟨v', w', hr, h2, h3, _, _⟩ := run_append_own_at (P := P) w base t o.type e i (.int k 0) 1 bytes ht hi hz hsize hby rfl (by decide) v l.length (nums k l) hown ad m.length c (nums k m) (by rw [nums_len, Nat.mul_one]) hnews (nums_one k m) h63 hbytes hbase
  unfold Oper.wp execOp
  simp only [ho, resolve, invoke, builtin, Sem.run_bind, Sem.run_pure, Result.andThen_ok, List.map_toArray, List.map_cons, List.map_nil, hs, hx, hr]
  refine h _ _ ?_ h3
  show w'.ownsRow base e 1 v' (l ++ m).length (nums k (l ++ m))
  rw [List.length_append, show nums k (l ++ m) = nums k l ++ nums k m by simp [nums]]
  exact h2
theorem cell_two_new (w : World) (x y : Value) (t : TypeId) : ∀ j u, [x, y][j]? = some u → (w.alloc (.cells #[x, y] t)).cell? ((⟨w.heap.size, 0, none⟩ : Addr).add j) = some u := by
  intro j u hj
  match j, hj with
  | 0, hj =>
    simp at hj
    subst hj
    simp [Addr.add]
  | 1, hj =>
    simp at hj
    subst hj
    simp [Addr.add]
end Go.Proofs.YtcjjhddppcmgoaaDoor

/-! Arrays of bytes compared and read; the worlds of a statement that reads, and calls what makes memory. -/
namespace Go.Proofs.YtcjjhddppcmgoaaDoor
open Go.RowKit

theorem shaN_lt (s : List UInt8) : ∀ x ∈ shaN s, x < 256 := by
  intro x hx
  simp only [shaN, outN, List.mem_map] at hx
  obtain ⟨i, _, rfl⟩ := hx
  exact Nat.mod_lt _ (by decide)

theorem Tryd.infoA : (Tryd.prog.info? 60).map (fun i => i.size) = some 32 := by kernel_rfl
/-- Two arrays of bytes are compared. -/
theorem cells_txt {l : List Nat} (h : ∀ x ∈ l, x < 256) : nums .u8 l = (txt l).map Extern.Stop.cell := by
  have e : (txt l).map Extern.Stop.cell = nums .u8 (byteNs (txt l)) := (byteNs_nums (txt l)).symm
  rw [e, byteNs_txt h]
theorem txt_beq {a b : List Nat} (la : ∀ x ∈ a, x < 256) (lb : ∀ x ∈ b, x < 256) : (txt a == txt b) = (a == b) := by
  rw [Bool.eq_iff_iff, beq_iff_eq, beq_iff_eq]
  exact ⟨txt_inj la lb, fun h => by rw [h]⟩
theorem equal_nums {P : Program} (t e : TypeId) (n : Nat) (ht : P.underlying t = some (.array n e)) (he : P.underlying e = some (.int .u8)) (hsz : ∀ w, (sizeOf e).run P w = .ok 1 w)
    (a b : List Nat) (ha : a.length = n) (hb : b.length = n) (la : ∀ x ∈ a, x < 256) (lb : ∀ x ∈ b, x < 256) (w : World) :
    (Op.equalIn 10000 t (.agg (nums .u8 a).toArray) (.agg (nums .u8 b).toArray)).run P w = .ok (a == b) w := by
  rw [cells_txt la, cells_txt lb, run_equalIn_bytes w 9998 t e n ht he hsz (txt a) (txt b) (by rw [txt_len, ha]) (by rw [txt_len, hb]), txt_beq la lb]
theorem equal_id (a b : List Nat) (ha : a.length = 32) (hb : b.length = 32) (la : ∀ x ∈ a, x < 256) (lb : ∀ x ∈ b, x < 256) (w : World) :
    (Op.equalIn 10000 61 (.agg (nums .u8 a).toArray) (.agg (nums .u8 b).toArray)).run Tryd.prog w = .ok (a == b) w :=
  equal_nums _ _ _ Tryd.underlying61 Tryd.underlying5 Tryd.sizeOf5 a b ha hb la lb w
theorem equal_sha (s t : List UInt8) (w : World) : (Op.equalIn 10000 61 (.agg (nums .u8 (shaN s)).toArray) (.agg (nums .u8 (shaN t)).toArray)).run Tryd.prog w = .ok (shaN s == shaN t) w :=
  equal_id _ _ (shaN_len s) (shaN_len t) (shaN_lt s) (shaN_lt t) w
/-- What holds of each world of a statement that reads, and calls what makes memory. -/
def SS (w1 w' : World) : Prop := Below w1.heap.size w1 w' ∧ KAt w'
theorem SS.start {w1 : World} (h : KAt w1) : SS w1 w1.drew := ⟨(Below.refl _ _).drew, h⟩
theorem SS.next {w1 wp w' : World} (h : SS w1 wp) (hb : Below wp.heap.size wp w') : SS w1 w' := ⟨h.1.trans (hb.mono h.1.size), h.2.below hb⟩
/-- One walk in the text's order serves every order: at a class of worlds of one's own. -/
theorem wp_region_class {P : Program} {id : Nat} {Q : Exit → Act → World → Prop} {a : Act} {w : World} {l : List Oper} (C : World → Prop) (hm : P.follows .mixedOrders = true) (hB : Region.lexB .any l.toArray = true) (hC : C w.drew)
    (h : wpQuiet P l.toArray C (fun a' => ∀ w', C w' → Q .normal a' w') l a) : (Code.region id l.toArray true).wp P Q a w :=
  wp_region_quiet (C := C) hm hB hC (by simpa using h)
/-- An array of numbers is read, in a region whose order is open. -/
theorem quiet_load_nums {P : Program} {o : Oper} {a : Act} {C : World → Prop} {K : Act → Prop} (ty : TypeId) (x : Operand) (ho : o.op = .load ty x) (b : Nat) (k : IntKind) (l : List Nat) (t : TypeId) (d : TypeDesc)
    (hx : a.eval x = .pointer (some ⟨b, 0, none⟩)) (hC : ∀ w, C w → Blk b t k l w) (hu : P.underlying ty = some d) (hd : (match d with | .struct _ | .array _ _ => true | _ => false) = true) (hi : (P.info? ty).map (·.size) = some l.length)
    (hk : K (a.put o.dst (.agg (nums k l).toArray))) : o.quiet P a C K := by
  refine ⟨_, fun w hw => ?_, hk⟩
  unfold Oper.quietAt execOp
  simp only [ho, hx, Instr.loadAt, Instr.sureAddr, Sem.run_bind, Sem.run_pure, Result.andThen_ok, run_loadVar_row w b t ty _ (0, 0) d (hC w hw) hu hd (by rw [nums_size]; exact hi)]
  exact ⟨rfl, rfl⟩
end Go.Proofs.YtcjjhddppcmgoaaDoor
