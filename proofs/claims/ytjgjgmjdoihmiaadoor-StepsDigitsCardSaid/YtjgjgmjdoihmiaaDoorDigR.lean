/-
  Digits, the document's.
-/
import Derived.Test.YtjgjgmjdoihmiaaDoorDigM
namespace Go.Proofs.YtjgjgmjdoihmiaaDoor
open Go.RowKit Go.BigFrame

theorem Tryd.infoInt : (Tryd.prog.info? 3).map (fun i => (i.zero, i.size, i.bytes)) = some (some (.int .i64 0), 1, 8) := by kernel_rfl
/-- Numbers pushed onto a row of the call's own. -/
theorem wpList_append_nums {P : Program} {w : World} {ops : Array Oper} {rest : List Oper} {o : Oper} {a : Act} {Q : Exit → Act → World → Prop} (hgd : o.guard = none) (s x : Operand) (t e : TypeId)
    (ho : o.op = .call { callee := .builtin .append, args := #[s, x], argTypes := #[t, t] })
    (B : Nat) (k : IntKind) (bytes : Nat) (ht : P.underlying t = some (.slice e)) (hinfo : (P.info? e).map (fun i => (i.zero, i.size, i.bytes)) = some (some (.int k 0), 1, bytes))
    (v : Value) (l m : List Nat) (ad : Addr) (n c : Nat) (hn : n = m.length) (hs : a.eval s = v) (hown : OwnN B e k v l w) (hx : a.eval x = .slice (some ad) n c) (hnews : ∀ j u, (nums k m)[j]? = some u → w.cell? (ad.add j) = some u)
    (h63 : l.length + m.length ≤ maxLen) (hbytes : (l.length + m.length) * bytes ≤ 140737488355328) (hB : B ≤ w.heap.size)
    (h : ∀ v' w', Hid (OwnN B e k v' (l ++ m) w') → Hid (Below B w w') → wpList P ops Q rest (a.put o.dst v') w') : wpList P ops Q (o :: rest) a w := by
  obtain ⟨i, hi, hz0, hz1, hz2⟩ := info_parts hinfo
  subst hn
  refine wpList_append_own_at w hgd s x _ ho B e i (.int k 0) 1 bytes ht hi hz0 hz1 hz2 rfl (by decide) v l.length (nums k l) hs hown ad m.length c (nums k m) hx (by rw [nums_len, Nat.mul_one]) hnews (nums_one k m) h63 hbytes hB ?_
  intro v' w' h2 hg _ _
  refine h v' w' ?_ ((Below.refl B w).grown hg hB (fun k hk => (World.ownsRow.lt hown k hk).1))
  show w'.ownsRow B e 1 v' (l ++ m).length (nums k (l ++ m))
  rw [List.length_append, show nums k (l ++ m) = nums k l ++ nums k m by simp [nums]]
  exact h2
theorem cells_new (w : World) (k : IntKind) (m : List Nat) (t : TypeId) : ∀ j u, (nums k m)[j]? = some u → (w.alloc (.cells (nums k m).toArray t)).cell? ((⟨w.heap.size, 0, none⟩ : Addr).add j) = some u := by
  intro j u hj
  have h : Blk w.heap.size t k m (w.alloc (.cells (nums k m).toArray t)) := heap_alloc_new w _
  rw [Addr.add_lit, Nat.zero_add, Lib.cell_of_heap h j, List.getElem?_toArray]
  exact hj

set_option maxHeartbeats 4000000 in
set_option maxRecDepth 100000 in
theorem ref_digits (x : List Nat) (w : World) (hx : x.length = 16) (hl : ∀ y ∈ x, y < 256) :
    Calls Tryd.prog 12 #[.agg (nums .u8 x).toArray] w fun e w' => ∃ ao c, e = .returned (.slice ao 35 c) ∧ OwnN w.heap.size 3 .i64 (.slice ao 35 c) (digN x) w' ∧ Below w.heap.size w w' := by
  have HX := Lib.hid hx
  have HL := Lib.hid hl
  clear hx hl
  go_enter Tryd.func12, Tryd.ntmps12
  go_upto_region 3 with (fail)
  obtain ⟨w1, hw1⟩ : ∃ x', x' = w.alloc (.cells (nums .u8 x).toArray 24) := ⟨_, rfl⟩
  rw [← hw1]
  have HX1 := Lib.hid (show Blk w.heap.size 24 .u8 x w1 by rw [hw1]; exact heap_alloc_new w _)
  have HB1 := Lib.hid (show Below w.heap.size w w1 by rw [hw1]; exact (Below.refl _ _).alloc (Nat.le_refl _) _)
  have HI := Lib.hid (show (Tryd.prog.info? 24).map (·.size) = some x.length by rw [HX.out]; exact Tryd.infoE)
  clear hw1
  go_wp2_with (refine wpList_load_nums rfl 24 _ rfl w.heap.size .u8 _ 24 _ rfl HX1.out Tryd.underlying24 rfl HI.out ?_)
  go_loopw [3, 4, 8] (fun v n i wq => ∃ k : Nat, k ≤ 16 ∧ i = .int .i64 k ∧ n = .int .i64 (leftL (digL (x.take k))) ∧ OwnN w.heap.size 3 .i64 v (digL (x.take k)) wq ∧ Below w.heap.size w1 wq) (fun _ _ i _ => 16 - (intOf i).toNat)
  case atStart => exact ⟨0, by omega, rfl, rfl, OwnN.nil _ _ _ _, Below.refl _ _⟩
  case round =>
    obtain ⟨k, hk, rfl, rfl, ho, hb⟩ := hrel
    obtain ⟨ao, cp, rfl⟩ := ho.form
    have HO := Lib.hid ho
    have HB := Lib.hid hb
    have HW := Lib.hid (Nat.le_trans HB1.out.size hb.size)
    clear ho hb
    by_cases hlk : k < 16
    · have hix := fun w => run_index_nums (P := Tryd.prog) 24 5 16 .u8 x k w Tryd.underlying24 HX.out Tryd.sizeOf5 Tryd.isAgg5 hlk
      have hy := getD_lt HL.out (by decide) k
      have HN := Lib.hid (digL_next (l := x) (k := k) (by rw [HX.out]; exact hlk))
      have HM := Lib.hid (left_bytes HL.out (k := k) (by rw [HX.out]; exact hlk))
      have HLE := Lib.hid (show leftL (digL (x.take k)) ≤ 480 by have h := leftL_le (digL (x.take k)); rw [digL_len, List.length_take, HX.out] at h; omega)
      have HLN := Lib.hid (show (digL (x.take k)).length ≤ 32 by rw [digL_len, List.length_take, HX.out]; omega)
      generalize x.getD k 0 = y at hix hy HN HM
      generalize digL (x.take k) = L at HO HN HM HLE HLN ⊢
      obtain ⟨a, ha⟩ : ∃ a, a = y / 16 := ⟨_, rfl⟩
      obtain ⟨b, hb⟩ : ∃ b, b = y % 16 := ⟨_, rfl⟩
      rw [← ha, ← hb] at HN HM
      have e1 : (y : Int) / 16 = (a : Int) := by omega
      have e2 : (y : Int) % 16 = (b : Int) := by omega
      have ha16 : a < 16 := by omega
      have hb16 : b < 16 := by omega
      have HLA := Lib.hid (show L.length + [a, b].length ≤ maxLen by have := HLN.out; simp; unfold maxLen; omega)
      have HLB := Lib.hid (show (L.length + [a, b].length) * 8 ≤ 140737488355328 by have := HLN.out; simp; omega)
      clear ha hb
      go_wp2_with (refine wpList_append_nums rfl (.tmp 11) (.tmp 18) 32 3 rfl w.heap.size .i64 8 Tryd.underlying32 Tryd.infoInt (.slice ao L.length cp) L [a, b] ⟨wr.heap.size, 0, none⟩ 2 2 rfl rfl (OwnN.alloc HO.out _) rfl (cells_new wr .i64 [a, b] 3) HLA.out HLB.out (by have := HW.out; simp; omega) ?_)
      intro v4 w4 ho4 hb4
      have HB4 := Lib.hid (show Below w.heap.size w1 w4 from (HB.out.alloc HW.out _).trans hb4.out)
      clear hb4
      have hle := HLE.out
      go_wp2_with fail
      exact ⟨⟨k + 1, by omega, by go_num, by rw [HM.out]; go_num, by rw [HN.out]; exact ho4.out, HB4.out⟩, by simp [intOf]; omega⟩
    · obtain rfl : k = 16 := by omega
      rw [List.take_of_length_le (by rw [HX.out]; exact Nat.le_refl _)] at HO ⊢
      have HD := Lib.hid (show (digL x).length = 32 by rw [digL_len, HX.out])
      have HN := Lib.hid (show digN x = digL x ++ sumL (leftL (digL x)) from rfl)
      have HLE := Lib.hid (left_480 HX.out)
      generalize digL x = D at HO HD HN HLE ⊢
      have hle := HLE.out
      obtain ⟨a, ha⟩ : ∃ a, a = leftL D / 256 := ⟨_, rfl⟩
      obtain ⟨b, hb⟩ : ∃ b, b = leftL D / 16 % 16 := ⟨_, rfl⟩
      obtain ⟨c, hc⟩ : ∃ c, c = leftL D % 16 := ⟨_, rfl⟩
      rw [sumL, ← ha, ← hb, ← hc] at HN
      have e1 : (leftL D : Int) / 256 = (a : Int) := by omega
      have e2 : (leftL D : Int) / 16 % 16 = (b : Int) := by omega
      have e3 : (leftL D : Int) % 16 = (c : Int) := by omega
      clear ha hb hc
      rw [HD.out] at HO ⊢
      have HLA := Lib.hid (show D.length + [a, b, c].length ≤ maxLen by rw [HD.out]; simp; unfold maxLen; omega)
      have HLB := Lib.hid (show (D.length + [a, b, c].length) * 8 ≤ 140737488355328 by rw [HD.out]; simp)
      go_wp2_with (refine wpList_append_nums rfl (.tmp 31) (.tmp 39) 32 3 rfl w.heap.size .i64 8 Tryd.underlying32 Tryd.infoInt (.slice ao 32 cp) D [a, b, c] ⟨wr.heap.size, 0, none⟩ 3 3 rfl rfl (OwnN.alloc HO.out _) rfl (cells_new wr .i64 [a, b, c] 3) HLA.out HLB.out (by have := HW.out; simp; omega) ?_)
      intro v4 w4 ho4 hb4
      have HB4 := Lib.hid (show Below w.heap.size w w4 from HB1.out.trans ((HB.out.alloc HW.out _).trans hb4.out))
      have HO4 := Lib.hid (show OwnN w.heap.size 3 .i64 v4 (digN x) w4 by rw [HN.out]; exact ho4.out)
      clear hb4 ho4
      obtain ⟨ao4, c4, rfl⟩ := HO4.out.form
      have HO5 := Lib.hid (show OwnN w.heap.size 3 .i64 (.slice ao4 35 c4) (digN x) w4 by have h := HO4.out; rwa [digN_len HX.out] at h)
      rw [digN_len HX.out]
      go_wp2_with fail
      go_ret
      exact ⟨ao4, c4, rfl, HO5.out, HB4.out⟩
end Go.Proofs.YtjgjgmjdoihmiaaDoor
