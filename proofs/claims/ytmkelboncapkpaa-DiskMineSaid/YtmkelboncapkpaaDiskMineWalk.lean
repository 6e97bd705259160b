/-
  The law DiskMine: its walk.
-/
import Derived.Test.YtmkelboncapkpaaAlive7
import Derived.Laws.AppendOwnNone
namespace Go.Proofs.Ytmkelboncapkpaa
open Go.RowKit Go.BigFrame

theorem mine_new : newS 1 = ⟨[List.replicate 128 0], [], false, 0, 0, 0⟩ := rfl
theorem mine_write (b : List UInt8) (h : b.length ≤ 128) : writeE (newS 1) 0 b = 0 ∧ writeS (newS 1) 0 b = ⟨[List.replicate 128 0], [(0, padN b)], false, 1, 0, 0⟩ := by
  have hw : whyS (newS 1) 0 = 0 := by decide
  have hf : failS (newS 1) = false := by decide
  refine ⟨by rw [writeE, if_pos hw, if_neg (by omega), hf]; rfl, ?_⟩
  rw [writeS, if_pos ⟨hw, h⟩, mine_new]
  rfl
theorem mine_read (b : List UInt8) : whyS ⟨[List.replicate 128 0], [(0, padN b)], false, 1, 0, 0⟩ 0 = 0 ∧ readB ⟨[List.replicate 128 0], [(0, padN b)], false, 1, 0, 0⟩ 0 = padN b := ⟨rfl, rfl⟩
theorem mine_sync (b : List UInt8) : syncS ⟨[List.replicate 128 0], [(0, padN b)], false, 1, 0, 0⟩ = ⟨[padN b], [], false, 2, 0, 0⟩ := rfl
theorem mine_read2 (b : List UInt8) : whyS ⟨[padN b], [], false, 2, 0, 0⟩ 0 = 0 ∧ readB ⟨[padN b], [], false, 2, 0, 0⟩ 0 = padN b := ⟨rfl, rfl⟩
theorem mine_fit1 (b : List UInt8) (h : b.length ≤ 128) : Fit ⟨[List.replicate 128 0], [(0, padN b)], false, 1, 0, 0⟩ 999999 := by
  have h1 := ((fit_new 1).write 0 b).mono (show 0 + 1 ≤ 999999 by omega)
  rw [(mine_write b h).2] at h1
  exact h1
theorem mine_fit2 (b : List UInt8) (h : b.length ≤ 128) : Fit ⟨[padN b], [], false, 2, 0, 0⟩ 999999 := by
  have h1 := ((fit_new 1).write 0 b).sync.mono (show 0 + 1 + 1 ≤ 999999 by omega)
  rw [(mine_write b h).2, mine_sync] at h1
  exact h1
theorem Try.infoByte7 : (Try.prog.info? 5).map (fun i => (i.zero, i.size, i.bytes)) = some (some (.int .u8 0), 1, 1) := by kernel_rfl
/-- Bytes that came in are pushed onto an empty literal. -/
theorem wpList_append_in {P : Program} {w : World} {ops : Array Oper} {rest : List Oper} {o : Oper} {a : Act} {Q : Exit → Act → World → Prop} (hgd : o.guard = none) (s x : Operand) (t e : TypeId)
    (ho : o.op = .call { callee := .builtin .append, args := #[s, x], argTypes := #[t, t] })
    (B : Nat) (k : IntKind) (bytes : Nat) (ht : P.underlying t = some (.slice e)) (hinfo : (P.info? e).map (fun i => (i.zero, i.size, i.bytes)) = some (some (.int k 0), 1, bytes))
    (v : Value) (l m : List Nat) (ao : Option Addr) (n c : Nat) (hn : n = m.length) (hs : a.eval s = v) (hown : OwnN B e k v l w) (hx : a.eval x = .slice ao n c) (hnews : NumsAt ao k m w) (hnil : ao = none → c = 0)
    (h63 : l.length + m.length ≤ maxLen) (hbytes : (l.length + m.length) * bytes ≤ 140737488355328) (hB : B ≤ w.heap.size)
    (h : ∀ v' w', Hid (OwnN B e k v' (l ++ m) w') → Hid (Below B w w') → wpList P ops Q rest (a.put o.dst v') w') : wpList P ops Q (o :: rest) a w := by
  cases ao with
  | none =>
    obtain rfl := hnil rfl
    have hm : m = [] := by
      rcases hnews with h | ⟨b, o, h, _⟩
      · exact h
      · cases h
    subst hm
    obtain ⟨i, hi, hz0, hz1, hz2⟩ := info_parts hinfo
    subst hn
    refine wpList_append_own_none hgd s x t ho B e i 1 ht hi v l.length (nums k l) hs hown hx (h _ _ (Lib.hid (by rw [List.append_nil]; exact hown)) (Lib.hid (Below.refl _ _)))
  | some ad =>
    refine wpList_append_nums hgd s x t e ho B k bytes ht hinfo v l m ad n c hn hs hown hx (fun j u hj => ?_) h63 hbytes hB h
    have hjl : j < m.length := by
      have := (List.getElem?_eq_some_iff.1 hj).1
      rwa [nums_len] at this
    rcases hnews with h | ⟨b, o, h, _, hc⟩
    · rw [h] at hjl; cases hjl
    · obtain rfl := Option.some.inj h
      rw [Addr.add_mid, hc j hjl, ← hj, nums, List.getElem?_map, List.getElem?_eq_getElem hjl]
      rfl

/-- Bytes that lie there and may be stored into. -/
def WB (g o m : Nat) (w : World) : Prop := ∀ j, j < m → (∃ y : Nat, y < 256 ∧ w.cell? ⟨g, o + j, none⟩ = some (.int .u8 (y : Int))) ∧ w.frozen? ⟨g, o + j, none⟩ = false
theorem WB.set {g o m k z : Nat} {w : World} (h : WB g o m w) (hk : k < m) (hz : z < 256) : WB g o m (w.setCell ⟨g, o + k, none⟩ (.int .u8 (z : Int))) := fun j hj => by
  refine ⟨?_, by rw [World.frozen?_setCell]; exact (h j hj).2⟩
  by_cases hjk : j = k
  · subst hjk
    obtain ⟨y, _, hy⟩ := (h j hj).1
    exact ⟨z, hz, World.cell?_setCell_same' w _ _ (by rw [hy]; rfl)⟩
  · obtain ⟨y, hy1, hy⟩ := (h j hj).1
    have e : (w.setCell ⟨g, o + k, none⟩ (.int .u8 (z : Int))).cell? ⟨g, o + j, none⟩ = w.cell? ⟨g, o + j, none⟩ := by
      apply World.cell?_setCell_other
      simp only [ne_eq, Addr.mk.injEq, true_and, and_true]
      omega
    exact ⟨y, hy1, by rw [e]; exact hy⟩

namespace diskMine
set_option maxHeartbeats 4000000 in
set_option maxRecDepth 100000 in
theorem walk (w : World) (ao : Option Addr) (b : List UInt8) (cap : Nat) (hb : NumsAt ao .u8 (byteNs b) w ∧ (byteNs b ≠ [] → ∀ a, ao = some a → a.block < w.heap.size)) (_hl : b.length ≤ 140737488351232) (hnil : ao = none → cap = 0) :
    Calls Try.prog 5 #[.slice ao b.length cap] w fun e w' => e = .returned (.bool true) ∧ Below w.heap.size w w' := by
  have HNB := Lib.hid hb.1
  have HNL := Lib.hid hnil
  clear hb hnil
  go_enter Try.func5, Try.ntmps5
  go_wp2_with fail
  refine (alive7_any w).mono ?_
  rintro e w1 ⟨rfl, hb1⟩
  have HB1 := Lib.hid hb1
  clear hb1
  by_cases hlong : 128 < b.length
  · have hl2 : (128 : Int) < (b.length : Int) := by omega
    go_wp2_with fail
    go_ret
    exact ⟨rfl, HB1.out⟩
  · have hl2 : ¬ (128 : Int) < (b.length : Int) := by omega
    have HL128 := Lib.hid (show b.length ≤ 128 by omega)
    clear hlong
    go_wp2_with fail
    refine (dev7_new 1 w1).mono ?_
    rintro e w2 ⟨⟨v, O, rfl, hd, hO⟩, hb2⟩
    obtain ⟨ad, rfl⟩ := hd.ptr
    have HD := Lib.hid hd
    have HO := Lib.hid (show ∀ x, O x → w.heap.size ≤ x from fun x hx => Nat.le_trans HB1.out.size (hO x hx))
    have HB2 := Lib.hid (HB1.out.trans (hb2.mono HB1.out.size))
    clear hd hO hb2 HB1
    have hba : Below w2.heap.size w2 (w2.alloc (.cells #[] 5)) := (Below.refl _ _).alloc (Nat.le_refl _) _
    have HOW := Lib.hid (show OwnN w2.heap.size 5 .u8 (.slice (some ⟨w2.heap.size, 0, none⟩) 0 0) [] (w2.alloc (.cells #[] 5)) from World.ownsRow_lit (base := w2.heap.size) (e := 5) (size := 1) w2 #[] 0 (Nat.le_refl _) (by unfold maxLen; omega) rfl)
    have HNA := Lib.hid ((HNB.out.below HB2.out).below hba)
    have HBA := Lib.hid hba
    have HBS := Lib.hid hba.size
    have HLA := Lib.hid (show ([] : List Nat).length + (byteNs b).length ≤ maxLen by rw [byteNs_len]; have := HL128.out; unfold maxLen; simp; omega)
    have HLB := Lib.hid (show (([] : List Nat).length + (byteNs b).length) * 1 ≤ 140737488355328 by rw [byteNs_len]; have := HL128.out; simp; omega)
    have HBN := Lib.hid (byteNs_len b)
    clear hba
    go_wp2_with (at_builtin; refine wpList_append_in rfl (.tmp 18) (.tmp 19) 29 5 rfl w2.heap.size .u8 1 Try.underlying29 Try.infoByte7 _ [] (byteNs b) ao b.length cap HBN.out.symm rfl HOW.out rfl HNA.out HNL.out HLA.out HLB.out HBS.out ?_)
    intro v3 w3 ho3 hb3
    obtain ⟨p3, q3, rfl⟩ := ho3.out.form
    rw [byteNs_len] at ho3 ⊢
    have HO3 := Lib.hid ho3.out
    have hb23 : Below w2.heap.size w2 w3 := HBA.out.trans hb3.out
    have HD3 := Lib.hid (HD.out.only (Only.of (O := fun _ => False) hb23) (fun _ _ => id))
    have HB3 := Lib.hid (HB2.out.trans (hb23.mono HB2.out.size))
    have HW23 := Lib.hid hb23.size
    have HW2 := Lib.hid HB2.out.size
    have HNA3 := Lib.hid (HNB.out.below HB3.out)
    have HN3 := Lib.hid (show NumsAt p3 .u8 (byteNs b) w3 from OwnN.at (c := q3) (by rw [byteNs_len]; exact HO3.out))
    have HLT := Lib.hid (HD.out.lt)
    obtain ⟨me, ms⟩ := mine_write b HL128.out
    have HWR := Lib.hid (dev7_write O _ (newS 1) 0 b p3 q3 w3 HD3.out ((fit_new 1).mono (by omega)) HN3.out (fun _ a ha e => by
      subst ha
      have h1 := (World.ownsRow.lt HO3.out a.block rfl).1
      have h2 := HLT.out _ e
      omega) (by have := HL128.out; omega))
    rw [me, ms] at HWR
    clear me ms ho3 hb3 hb23 HOW HNA HBA HBS HLA HLB HBN HD HB2 HD3
    go_wp2_with fail
    refine HWR.out.mono ?_
    rintro e w4 ⟨rfl, O4, hd4, ht4⟩
    have HD4 := Lib.hid hd4
    have hfree : ∀ x, (Value.slice p3 b.length q3).ownBlock = some x → ¬ O x := fun x hx e => by
      have h1 := (World.ownsRow.lt HO3.out x hx).1
      have h2 := HLT.out _ e
      omega
    have ho4 : OwnN w2.heap.size 5 .u8 (.slice p3 b.length q3) (byteNs b) w4 := by
      refine ⟨HO3.out.1, ?_⟩
      rcases HO3.out.2 with h | ⟨g, c, cur, h1, h2, h3, h4⟩
      · exact .inl h
      · exact .inr ⟨g, c, cur, h1, h2, (ht4.only.block g (lt_of_block h3) (hfree g (by rw [h1]; rfl))).trans h3, h4⟩
    have HO4 := Lib.hid ho4
    have HB4 := Lib.hid (Only.toBelow HB3.out ht4.only HO.out (Nat.le_trans HW2.out HW23.out))
    have HW4 := Lib.hid (Nat.le_trans (Nat.le_trans HW2.out HW23.out) ht4.only.size)
    have HOO4 := Lib.hid (show ∀ x, O4 x → w.heap.size ≤ x from fun x hx => (ht4.own x hx).elim (HO.out x) (fun h => Nat.le_trans (Nat.le_trans HW2.out HW23.out) h))
    have HFR4 := Lib.hid (show ∀ x, (Value.slice p3 b.length q3).ownBlock = some x → ¬ O4 x from fun x hx => ht4.free (hfree x hx) (World.ownsRow.lt HO3.out x hx).2)
    have hn4 : NumsAt p3 .u8 (byteNs b) w4 := OwnN.at (c := q3) (by rw [byteNs_len]; exact ho4)
    have hc1 := conv_in (P := Try.prog) Try.underlying29 Try.underlying5 Try.underlying9 (c := q3) hn4
    have hc2 := conv_in (P := Try.prog) Try.underlying29 Try.underlying5 Try.underlying9 (c := cap) (HNB.out.below HB4.out)
    clear hd4 ht4 hfree ho4 hn4 HWR HO3 HB3 HNA3 HN3 HLT HW23 HO
    go_wp2_with fail
    clear hc1 hc2
    obtain ⟨n, hn⟩ : ∃ n, b.length = n := ⟨_, rfl⟩
    have HN := Shut.mk hn
    rw [hn] at HO4 HFR4 ⊢
    have hn128 : n ≤ 128 := by have := HL128.out; omega
    go_loopw [34] (fun i wq => ∃ (k : Nat) (l : List Nat), k ≤ n ∧ i = .int .i64 k ∧ l.length = n ∧ (∀ y ∈ l, y < 256) ∧ OwnN w2.heap.size 5 .u8 (.slice p3 n q3) l wq ∧ DiskIs O4 (.pointer (some ad)) ⟨[List.replicate 128 0], [(0, padN b)], false, 1, 0, 0⟩ wq ∧ Below w.heap.size w wq ∧ w.heap.size ≤ wq.heap.size) (fun i _ => n - (intOf i).toNat)
    case atStart => exact ⟨0, byteNs b, by omega, rfl, by rw [byteNs_len, hn], byteNs_lt b, HO4.out, HD4.out, HB4.out, HW4.out⟩
    case round =>
      clear HO4 HD4 HB4 HW4
      obtain ⟨k, l, hk, rfl, hll, hlt, ho, hd, hb, hB⟩ := hrel
      have HO4 := Lib.hid ho
      have HD4 := Lib.hid hd
      have HB4 := Lib.hid hb
      have HW4 := Lib.hid hB
      have HLL := Shut.mk hll
      have HLT := Lib.hid hlt
      clear ho hd hb hB hll hlt hn
      by_cases hlk : k < n
      · have hlk2 : (k : Int) < (n : Int) := by omega
        obtain ⟨g, c, hv, hg1, hg2⟩ := HO4.out.formB (by rw [HLL.out]; omega)
        obtain rfl : p3 = some ⟨g, 0, none⟩ := by injection hv
        have c1 := HO4.out.cellN (by rw [HLL.out]) k hlk
        have f1 := HO4.out.frozenAt (by rw [HLL.out]) k
        have hx := getD_lt HLT.out (by decide) k
        obtain ⟨x, hxe⟩ : ∃ x, l.getD k 0 = x := ⟨_, rfl⟩
        rw [hxe] at c1 hx
        clear hv hxe
        have hmod : ((x : Int) + 1) % 256 = (((x + 1) % 256 : Nat) : Int) := by omega
        have HMOD := Shut.mk hmod
        have HD5 := Lib.hid (HD4.out.only ((Only.refl (fun y => y = g) wr).setCell k (.int .u8 (((x + 1) % 256 : Nat) : Int)) (.inl rfl)) (fun y hy e => HFR4.out g rfl (by rw [← e]; exact hy)))
        have HO5 := Lib.hid (OwnN.stored (by rw [HLL.out]) HO4.out k ((x + 1) % 256))
        have HB5 := Lib.hid (Below.setCell HB4.out (p := ⟨g, k, none⟩) (Nat.le_trans HW2.out hg1) (.int .u8 (((x + 1) % 256 : Nat) : Int)))
        have HS5 := Lib.hid (show ∀ y ∈ l.set k ((x + 1) % 256), y < 256 from fun y hy => by
          rcases List.mem_or_eq_of_mem_set hy with h | rfl
          · exact HLT.out y h
          · omega)
        clear hmod
        go_wp2_with fail
        rw [HMOD.out]
        exact ⟨⟨k + 1, l.set k ((x + 1) % 256), by omega, by go_num, by rw [List.length_set, HLL.out], HS5.out, HO5.out, HD5.out, HB5.out, HB5.out.size⟩, by simp [intOf]; omega⟩
      · obtain rfl : n = k := by omega
        have hnw : ¬ (n : Int) < (n : Int) := by omega
        clear HO4 HLT HLL HFR4
        obtain ⟨r1, r2⟩ := mine_read b
        have HRD := Lib.hid (dev7_read O4 _ _ 0 wr HD4.out (mine_fit1 b HL128.out))
        rw [r1, r2] at HRD
        have HZL := Shut.mk (padN_len HL128.out)
        have HTK := Shut.mk (show (padN b).take b.length = b by rw [padN, List.take_append_of_le_length (Nat.le_refl _), List.take_length])
        obtain ⟨y1, y2⟩ := mine_read2 b
        have HY := Lib.hid (fun (O : Nat → Prop) (w' : World) (hd : DiskIs O (.pointer (some ad)) ⟨[padN b], [], false, 2, 0, 0⟩ w') => dev7_read O _ _ 0 w' hd (mine_fit2 b HL128.out))
        rw [y1, y2] at HY
        have HSY := Lib.hid (fun (O : Nat → Prop) (w' : World) (hd : DiskIs O (.pointer (some ad)) ⟨[List.replicate 128 0], [(0, padN b)], false, 1, 0, 0⟩ w') => dev7_sync O _ _ w' hd (mine_fit1 b HL128.out))
        rw [mine_sync] at HSY
        obtain ⟨Z, hZ⟩ : ∃ Z, padN b = Z := ⟨_, rfl⟩
        rw [hZ] at HRD HZL HTK HY HSY HD4
        clear r1 r2 y1 y2 hZ
        go_wp2_with fail
        refine HRD.out.mono ?_
        rintro e w5 ⟨⟨xo, xc, rfl, hnb⟩, hb5⟩
        have HD5 := Lib.hid (HD4.out.only (Only.of (O := fun _ => False) hb5) (fun _ _ => id))
        have HB5 := Lib.hid (HB4.out.trans (hb5.mono HB4.out.size))
        have HW5 := Lib.hid (Nat.le_trans HW4.out hb5.size)
        have hcv := conv_in (P := Try.prog) Try.underlying29 Try.underlying5 Try.underlying9 (c := xc) hnb.nums
        rcases hnb with hnil | ⟨g, o, rfl, hg1, hg2, hcell⟩
        · have := HZL.out; rw [hnil] at this; cases this
        have HWB := Lib.hid (show WB g o Z.length w5 from fun j hj => ⟨⟨(Z[j]).toNat, (Z[j]).toNat_lt, (hcell j hj).1⟩, (hcell j hj).2⟩)
        have HGO := Lib.hid (show ¬ O4 g from fun e => by have := HD4.out.lt g e; omega)
        have HGW := Lib.hid (show w.heap.size ≤ g from Nat.le_trans HW4.out hg1)
        clear hb5 hcell hg1 hg2 HRD HD4 HB4 HW4
        obtain ⟨m, hm⟩ : ∃ m, Z.length = m := ⟨_, rfl⟩
        have HM := Shut.mk hm
        rw [hm] at HWB hcv ⊢
        have hm128 : m ≤ 128 := by have := HZL.out; omega
        clear hm
        go_wp2_with fail
        clear hcv
        go_loopw [53] (fun i wq => ∃ k : Nat, k ≤ m ∧ i = .int .i64 k ∧ WB g o m wq ∧ DiskIs O4 (.pointer (some ad)) ⟨[List.replicate 128 0], [(0, Z)], false, 1, 0, 0⟩ wq ∧ Below w.heap.size w wq ∧ w.heap.size ≤ wq.heap.size) (fun i _ => m - (intOf i).toNat)
        case atStart => exact ⟨0, by omega, rfl, HWB.out, HD5.out, HB5.out, HW5.out⟩
        case round =>
          clear HWB HD5 HB5 HW5
          obtain ⟨k, hk, rfl, hwb, hd, hb, hB⟩ := hrel
          have HWB := Lib.hid hwb
          have HD5 := Lib.hid hd
          have HB5 := Lib.hid hb
          have HW5 := Lib.hid hB
          clear hwb hd hb hB
          by_cases hlk : k < m
          · have hlk2 : (k : Int) < (m : Int) := by omega
            obtain ⟨⟨x, hx, c1⟩, f1⟩ := HWB.out k hlk
            have HMOD := Shut.mk (show ((x : Int) + 1) % 256 = (((x + 1) % 256 : Nat) : Int) by omega)
            have HD6 := Lib.hid (HD5.out.only ((Only.refl (fun y => y = g) wr).setCell (o + k) (.int .u8 (((x + 1) % 256 : Nat) : Int)) (.inl rfl)) (fun y hy e => HGO.out (by rw [← e]; exact hy)))
            have HB6 := Lib.hid (Below.setCell HB5.out (p := ⟨g, o + k, none⟩) HGW.out (.int .u8 (((x + 1) % 256 : Nat) : Int)))
            have HW6 := Lib.hid (HWB.out.set hlk (show (x + 1) % 256 < 256 by omega))
            go_wp2_with fail
            rw [HMOD.out]
            exact ⟨⟨k + 1, by omega, by go_num, HW6.out, HD6.out, HB6.out, HB6.out.size⟩, by simp [intOf]; omega⟩
          · obtain rfl : m = k := by omega
            have hnw : ¬ (m : Int) < (m : Int) := by omega
            clear HWB
            go_wp2_with fail
            refine (HSY.out O4 wr HD5.out).mono ?_
            rintro e w6 ⟨rfl, O6, hd6, ht6⟩
            have hb6 : Below w.heap.size w w6 := Only.toBelow HB5.out ht6.only HOO4.out HW5.out
            have HB6 := Lib.hid hb6
            have HW6 := Lib.hid (Nat.le_trans HW5.out ht6.only.size)
            have HD6 := Lib.hid hd6
            clear hd6 ht6 hb6 HD5 HB5 HSY HGO HGW HOO4 HW5
            go_wp2_with fail
            refine (HY.out O6 w6 HD6.out).mono ?_
            rintro e w7 ⟨⟨yo, yc, rfl, hnb⟩, hb7⟩
            have HB7 := Lib.hid (HB6.out.trans (hb7.mono HB6.out.size))
            have HX7 := Lib.hid hnb.nums
            rw [HM.out]
            clear hnb hb7 HB6 HD6 HY HW6
            have HCV := Lib.hid (fun (w' : World) (h : Below w7.heap.size w7 w') => conv_in (P := Try.prog) Try.underlying29 Try.underlying5 Try.underlying9 (c := yc) (HX7.out.below h))
            rw [HM.out] at HCV
            have HCB := Lib.hid (fun (w' : World) (h : Below w7.heap.size w7 w') => conv_in (P := Try.prog) Try.underlying29 Try.underlying5 Try.underlying9 (c := cap) (HNB.out.below (HB7.out.trans (h.mono HB7.out.size))))
            rw [HN.out] at HCB HTK
            have hcut : (⟨Z.toArray⟩ : ByteArray).extract 0 n = ⟨b.toArray⟩ := by rw [extract_head, HTK.out]
            have hle : ¬ (⟨Z.toArray⟩ : ByteArray).size < n := by simp only [ByteArray.size, List.size_toArray]; have := HZL.out; omega
            go_upto_region 23 with (fail)
            refine wp_region_class (fun w' => Below w7.heap.size w7 w') (by kernel_rfl) (by kernel_rfl) (Below.refl _ _).drew ?_
            repeat (first
              | go_big_quiet_skip
              | (go_big_quiet_want; refine quiet_conv 29 9 (.tmp 73) rfl _ _ rfl HCV.out ?_; go_big_quiet_on; simp only [Act.put, List.setIfInBounds_toArray, List.set_cons_zero, List.set_cons_succ])
              | (go_big_quiet_want; refine quiet_conv 29 9 (.tmp 83) rfl _ _ rfl HCB.out ?_; go_big_quiet_on; simp only [Act.put, List.setIfInBounds_toArray, List.set_cons_zero, List.set_cons_succ])
              | go_big_quiet_step ((intro hs'; rfl)))
            refine wpQuiet_nil ?_
            intro w8 hs8
            have HB8 := Lib.hid (HB7.out.trans (hs8.mono HB7.out.size))
            clear hs8 HB7 HX7 HCV HCB hcut hle
            go_wp2_with fail
            go_ret
            exact ⟨rfl, HB8.out⟩
end diskMine
end Go.Proofs.Ytmkelboncapkpaa
