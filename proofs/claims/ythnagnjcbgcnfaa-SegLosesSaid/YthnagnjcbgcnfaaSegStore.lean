/-
  The developers' seg: the acts of a batch.
-/
import Derived.Test.YthnagnjcbgcnfaaSegWrite
namespace Go.Proofs.Ythnagnjcbgcnfaa
open Go.RowKit Go.BigFrame

/-- What the acts of a batch make of a disk. -/
def StoreR (s : DS) (e : Nat) (S T : List UInt8) (E : Nat) (s' : DS) : Prop :=
  (E = 0 ∧ Live s' (e + 1) T ∧ (s.fuse = 0 → s'.fuse = 0)) ∨ (E = 7 ∧ s.fuse ≠ 0 ∧ (Down s' e S ∨ Down s' (e + 1) T))

theorem fails_fuse {s : DS} (h : failS s = true) : s.fuse ≠ 0 := fun h0 => by
  rw [failS_fuse h0] at h
  cases h
theorem store_first {s : DS} {e K : Nat} {S T : List UInt8} (hm : Mid s e S T K) (hK : T.length ≤ 128 * K) : (syncE s = 0 ∧ Ready (syncS s) e S T) ∨ (syncE s = 7 ∧ s.fuse ≠ 0 ∧ Down (syncS s) e S) := by
  cases hf : failS s with
  | false => exact .inl (hm.sync hK hf)
  | true => exact .inr ⟨(hm.sync_fails hf).1, fails_fuse hf, (hm.sync_fails hf).2⟩
theorem store_slot {s : DS} {e : Nat} {S T : List UInt8} (hr : Ready s e S T) (he : e + 1 ≤ 4611686018427387904) (hn : s.safe.length ≤ 16384) :
    (writeE s (((e + 1) % 2 : Nat) : Int) (slotB (e + 1) T.length) = 0 ∧ Turning (writeS s (((e + 1) % 2 : Nat) : Int) (slotB (e + 1) T.length)) e S T) ∨
      (writeE s (((e + 1) % 2 : Nat) : Int) (slotB (e + 1) T.length) = 7 ∧ s.fuse ≠ 0 ∧ (Down (writeS s (((e + 1) % 2 : Nat) : Int) (slotB (e + 1) T.length)) e S ∨ Down (writeS s (((e + 1) % 2 : Nat) : Int) (slotB (e + 1) T.length)) (e + 1) T)) := by
  have hp := hr.put he hn
  rw [hr.writeE, hr.writeS]
  cases hf : failS s with
  | false => exact .inl ⟨rfl, hp.act hf⟩
  | true => exact .inr ⟨rfl, fails_fuse hf, hp.down hf⟩
theorem store_last {s : DS} {e : Nat} {S T : List UInt8} (ht : Turning s e S T) : (syncE s = 0 ∧ Live (syncS s) (e + 1) T) ∨ (syncE s = 7 ∧ s.fuse ≠ 0 ∧ (Down (syncS s) e S ∨ Down (syncS s) (e + 1) T)) := by
  cases hf : failS s with
  | false => exact .inl (ht.sync hf)
  | true => exact .inr ⟨(ht.sync_fails hf).1, fails_fuse hf, (ht.sync_fails hf).2⟩
theorem turn_keeps {O O' : Nat → Prop} {wa W : World} (ht : Turn O O' wa W) {k : Nat} (hk : k < wa.heap.size) (hn : ¬ O k) : W.heap[k]? = wa.heap[k]? ∧ ¬ O' k := ⟨ht.only.block k hk hn, fun h => (ht.own k h).elim hn (fun h => by omega)⟩

/-- An operation of two values that leaves the world. -/
theorem op_bin {P : Program} {o : Oper} {a : Act} {w : World} {K : Act → World → Prop} {Q : Exit → Act → World → Prop} (op : BinOp) (t u : TypeId) (x y : Operand) (ho : o.op = .binOp op t x y u) (vx vy r : Value) (hx : a.eval x = vx) (hy : a.eval y = vy)
    (hg : ∀ w, (eqGuard op t x y vx vy).run P w = .ok () w) (hr : ∀ w, (binOp op t vx vy).run P w = .ok r w) (h : K (a.put o.dst r) w) : OpWp P o a w K Q := by
  refine ⟨?_⟩
  unfold Oper.wp execOp
  simp only [ho, hx, hy, Sem.run_bind, Sem.run_pure, hg, hr, Result.andThen_ok]
  exact h
/-- Number i has made a row of bytes. -/
def BytesAt (s : Nat → Bool) (V : Nat → Value) (B i : Nat) (l : List UInt8) (w : World) : Prop := s i = true → ∃ g, V i = .slice (some ⟨g, 0, none⟩) 16 16 ∧ B ≤ g ∧ NumsAt (some ⟨g, 0, none⟩) .u8 (byteNs l) w
theorem BytesAt.none {V : Nat → Value} {B i : Nat} {l : List UInt8} {w : World} : BytesAt (fun _ => false) V B i l w := fun h => by cases h
theorem BytesAt.ne {s : Nat → Bool} {V : Nat → Value} {B i j : Nat} {l : List UInt8} {w w' : World} {u : Value} (h : BytesAt s V B j l w) (hne : j ≠ i) (hb : Below w.heap.size w w') : BytesAt (fun j => s j || j == i) (upd V i u) B j l w' := fun hs => by
  obtain ⟨g, e, hg, hr⟩ := h (seen_ne hne hs)
  exact ⟨g, by rw [upd_ne V u hne]; exact e, hg, hr.below hb⟩
theorem BytesAt.same {s : Nat → Bool} {V : Nat → Value} {B i g : Nat} {l : List UInt8} {w : World} (hg : B ≤ g) (h : NumsAt (some ⟨g, 0, Option.none⟩) .u8 (byteNs l) w) : BytesAt (fun j => s j || j == i) (upd V i (.slice (some ⟨g, 0, Option.none⟩) 16 16)) B i l w := fun _ => ⟨g, upd_same _ _ _, hg, h⟩

set_option maxHeartbeats 4000000 in
set_option maxRecDepth 100000 in
theorem dev8_store (O P : Nat → Prop) (vs vd : Value) (s : DS) (e : Nat) (S : List UInt8) (L : List (List UInt8)) (lo : Option Addr) (lc n : Nat) (w : World) (h : DiskIs O vd s w) (hs : SegIs P vs vd e S w) (hap : ∀ b, O b → ¬ P b) (hl : Live s e S) (hf : Fit s n) (hn : n + s.safe.length + 4 ≤ 900000)
    (hL : StrsAt lo L w) (hLO : L ≠ [] → ∀ a, lo = some a → ¬ O a.block) (hLl : ∀ t ∈ L, t.length ≤ 250000) (hfit : (S ++ textsB L).length ≤ 128 * (s.safe.length - 2)) (he : e + 1 ≤ 4611686018427387904) :
    Calls Try.prog 25 #[vs, .agg (slotV (e + 1) (S ++ textsB L).length), .slice lo L.length lc] w fun x w' => ∃ E s' O', x = .returned (.int .i64 (E : Nat)) ∧ DiskIs O' vd s' w' ∧ Turn O O' w w' ∧ Fit s' (n + s.safe.length + 4) ∧ s'.safe.length = s.safe.length ∧ StoreR s e S (S ++ textsB L) E s' := by
  obtain ⟨ad, rfl⟩ := h.ptr
  have hs' := hs
  obtain ⟨b, rfl, hPe, hc⟩ := hs
  have HW := Lib.hid (fun (w' : World) (k : Below w.heap.size w w') => dev8_write O P (.pointer (some ⟨b, 0, none⟩)) (.pointer (some ad)) s e S L lo lc n w' (h.only (Only.of (O := fun _ => False) k) (fun _ _ => id)) (hs'.only (Only.of (O := fun _ => False) k) (fun _ _ => id)) hap hl hf hn (hL.below k) hLO hLl hfit)
  have hbO : ¬ O b := fun hO => hap b hO (by rw [hPe])
  have HBO := Lib.hid hbO
  have HCB := Lib.hid hc
  have HLV := Lib.hid hl
  have HF := Lib.hid hf
  have HN := Lib.hid hn
  have HE := Lib.hid he
  have HLT := Lib.hid h.lt
  have hblt := hc.lt
  have HBL := Lib.hid hblt
  have htl : (S ++ textsB L).length ≤ 3000000 := by have := hf.safe; omega
  obtain ⟨T, hT⟩ : ∃ T, S ++ textsB L = T := ⟨_, rfl⟩
  rw [hT] at htl HW ⊢
  obtain ⟨tl, htle⟩ : ∃ n, T.length = n := ⟨_, rfl⟩
  rw [htle] at htl ⊢
  have HTL := Shut.mk htle
  unfold slotV
  clear h hs' hPe hc hbO hap hl hf hn hL hLO hLl hfit hT htle
  obtain ⟨e', hee⟩ : ∃ x, e + 1 = x := ⟨_, rfl⟩
  have HEE := Shut.mk hee
  rw [hee]
  rw [hee] at he
  clear hee
  go_enter Try.func25, Try.ntmps25
  go_wp2_with fail
  have ha : Below w.heap.size w (w.alloc (.cells (slotV e' tl) 49)) := (Below.refl _ _).alloc (Nat.le_refl _) _
  have hx : Cells w.heap.size 49 (slotV e' tl) (w.alloc (.cells (slotV e' tl) 49)) := heap_alloc_new w _
  refine (HW.out _ ha).mono ?_
  rintro x w1 ⟨E, s1, O1, rfl, hd1, ht1, hf1, hl1, hr1⟩
  obtain ⟨wa, hwa⟩ : ∃ x, x = w.alloc (.cells (slotV e' tl) 49) := ⟨_, rfl⟩
  rw [← hwa] at ha hx
  have ht1' : Turn O O1 wa w1 := by rw [hwa]; exact ht1
  have hsa : wa.heap.size = w.heap.size + 1 := by rw [hwa]; exact World.size_alloc _ _
  obtain ⟨gx, hgx⟩ : ∃ g, w.heap.size = g := ⟨_, rfl⟩
  have HG := Shut.mk (show w.heap.size = gx ∧ wa.heap.size = gx + 1 from ⟨hgx, by rw [← hgx]; exact hsa⟩)
  rw [hgx] at hx ⊢
  have HGO := Lib.hid (show ¬ O gx from fun h => by have := HLT.out gx h; omega)
  have HA := Lib.hid ha
  have HCA := Lib.hid (HCB.out.below ha)
  have HXA := Lib.hid hx
  have HT1 := Lib.hid ht1'
  have HD1 := Lib.hid hd1
  have HF1 := Lib.hid hf1
  have HL1 := Shut.mk hl1
  have hblt2 : b < wa.heap.size := by omega
  have hgx2 : gx < wa.heap.size := by omega
  have HK1 := Lib.hid (turn_keeps ht1' hblt2 HBO.out)
  have HKX1 := Lib.hid (turn_keeps ht1' hgx2 HGO.out)
  have HLT2 := Shut.mk (show b < wa.heap.size ∧ gx < wa.heap.size from ⟨hblt2, hgx2⟩)
  clear ha hx ht1 ht1' hd1 hf1 hl1 hwa hsa hgx hblt hblt2 hgx2 HW
  rcases hr1 with ⟨rfl, ⟨K, hm, hK⟩, hfu⟩ | ⟨rfl, hfu, hdown⟩
  · have HM := Lib.hid (store_first hm hK)
    have HFU := Lib.hid hfu
    have hb1 : Cells b 57 (segV (.pointer (some ad)) e S.length 0) w1 := HK1.out.1.trans HCA.out
    have c0 := hb1.at 0
    simp only [segV, List.getElem?_toArray, List.getElem?_cons_zero] at c0
    have HSY := Lib.hid (dev7_sync O1 (.pointer (some ad)) s1 w1 HD1.out (HF1.out.mono (by have := HN.out; omega)))
    clear hm hK hfu hb1
    go_wp2_with fail
    refine HSY.out.mono ?_
    rintro x w2 ⟨rfl, O2, hd2, ht2⟩
    have HD2 := Lib.hid hd2
    have HT2 := Lib.hid (HT1.out.trans ht2)
    have HF2 := Lib.hid HF1.out.sync
    have HL2 := Shut.mk ((syncS_len s1).trans HL1.out)
    clear hd2 ht2 HSY c0 HD1 HT1 HK1 HKX1
    rcases HM.out with ⟨hE, hrd⟩ | ⟨hE, hfz, hdn⟩
    · rw [hE]
      have HRD := Lib.hid (store_slot hrd HE.out (by rw [HL2.out]; exact HF.out.safe))
      rw [HTL.out, HEE.out] at HRD
      have hkb := turn_keeps HT2.out HLT2.out.1 HBO.out
      have hkx := turn_keeps HT2.out HLT2.out.2 HGO.out
      have hb2 : Cells b 57 (segV (.pointer (some ad)) e S.length 0) w2 := hkb.1.trans HCA.out
      have hx2 : Cells gx 49 (slotV e' tl) w2 := hkx.1.trans HXA.out
      have hbl := hb2.lt
      have hxl := hx2.lt
      have c0 := hb2.at 0
      have x0 := hx2.at 0
      have x1 := hx2.at 1
      simp only [segV, slotV, List.getElem?_toArray, List.getElem?_cons_zero, List.getElem?_cons_succ] at c0 x0 x1
      have HCF := Lib.hid (fun (w' : World) (k : Below w2.heap.size w2 w') => show w'.cell? ⟨b, 0, none⟩ = some (.pointer (some ad)) ∧ w'.cell? ⟨gx, 0, none⟩ = some (.int .i64 (e' : Int)) ∧ w'.cell? ⟨gx, 1, none⟩ = some (.int .i64 (tl : Int)) from ⟨(k.cell (p := ⟨b, 0, none⟩) hbl).trans c0, (k.cell (p := ⟨gx, 0, none⟩) hxl).trans x0, (k.cell (p := ⟨gx, 1, none⟩) hxl).trans x1⟩)
      have HBY := Lib.hid (fun w' => dev8_bytes e' tl w' he htl)
      obtain ⟨s2, hs2⟩ : ∃ s2, syncS s1 = s2 := ⟨_, rfl⟩
      rw [hs2] at HD2 HF2 HL2 HRD
      have HS2 := Shut.mk hs2
      have HWR := Lib.hid (fun (g : Nat) (w' : World) (k : Below w2.heap.size w2 w') (hg : w2.heap.size ≤ g) (hnu : NumsAt (some ⟨g, 0, none⟩) .u8 (byteNs (slotB e' tl)) w') => dev7_write O2 (.pointer (some ad)) s2 ((e' % 2 : Nat) : Int) (slotB e' tl) (some ⟨g, 0, none⟩) 16 w' (HD2.out.only (Only.of (O := fun _ => False) k) (fun _ _ => id)) (HF2.out.mono (by have := HN.out; omega)) hnu (fun _ a ha hO => by
        cases ha
        have := HD2.out.lt g hO
        omega) (by rw [slotB_len]; decide))
      rw [slotB_len] at HWR
      obtain ⟨s3, hs3⟩ : ∃ s3, writeS s2 ((e' % 2 : Nat) : Int) (slotB e' tl) = s3 := ⟨_, rfl⟩
      obtain ⟨E3, hE3⟩ : ∃ E3, writeE s2 ((e' % 2 : Nat) : Int) (slotB e' tl) = E3 := ⟨_, rfl⟩
      rw [hs3, hE3] at HWR HRD
      obtain ⟨r, hr⟩ : ∃ r, e' % 2 = r := ⟨_, rfl⟩
      have hri : (e' : Int) % 2 = (r : Int) := by omega
      have HF3 := Lib.hid (show Fit s3 (n + s.safe.length + 1 + 1) by rw [← hs3]; exact HF2.out.write _ _)
      have HL3 := Shut.mk (show s3.safe.length = s.safe.length by rw [← hs3, writeS_len]; exact HL2.out)
      have HFU3 := Lib.hid (show s.fuse = 0 → s3.fuse = 0 from fun h => by rw [← hs3, ← hs2]; exact writeS_fuse (syncS_fuse (HFU.out h)) _ _)
      have HFU2 := Lib.hid (show s.fuse = 0 → s2.fuse = 0 from fun h => by rw [← hs2]; exact syncS_fuse (HFU.out h))
      rw [hr] at HWR
      have HX2 := Lib.hid hx2
      have HIS := Lib.hid (show (Try.prog.info? 49).map (·.size) = some (slotV e' tl).size by kernel_rfl)
      have HFA := Lib.hid (show ∀ w, (Instr.fieldAt 57 (.pointer (some ⟨b, 0, none⟩)) 0).run Try.prog w = .ok (.pointer (some ⟨b, 0, none⟩)) w from fun w => by go_simp)
      have HFX := Lib.hid (show ∀ w, (Instr.fieldAt 49 (.pointer (some ⟨gx, 0, none⟩)) 0).run Try.prog w = .ok (.pointer (some ⟨gx, 0, none⟩)) w from fun w => by go_simp)
      have HG1 := Lib.hid (show ∀ w, (eqGuard .rem 3 (.tmp 29) (.const (.int .i64 2)) (.int .i64 (e' : Int)) (.int .i64 2)).run Try.prog w = .ok () w from fun w => by go_simp)
      have HG2 := Lib.hid (show ∀ w, (binOp .rem 3 (.int .i64 (e' : Int)) (.int .i64 2)).run Try.prog w = .ok (.int .i64 (r : Int)) w from fun w => by
        go_simp
        rw [Int.tmod_eq_emod_of_nonneg (by omega)]
        exact hri)
      clear hkb hkx hb2 hx2 hE hrd HM hs2 hs3 hE3 hr HS2
      go_upto_region 7 with (fail)
      have HD0 := Lib.hid (show Below w2.heap.size w2 w2.drew from (Below.refl _ _).drew)
      clear c0 x0 x1 hbl hxl
      refine wp_region_free 9 (fun q V w' => Val q V 0 (.pointer (some ⟨b, 0, none⟩)) ∧ Val q V 1 (.pointer (some ⟨b, 0, none⟩)) ∧ Val q V 2 (.pointer (some ⟨b, 0, none⟩)) ∧ Val q V 3 (.pointer (some ad)) ∧ Val q V 4 (.pointer (some ⟨gx, 0, none⟩)) ∧ Val q V 5 (.int .i64 (e' : Int)) ∧ Val q V 6 (.int .i64 (r : Int)) ∧ Val q V 7 (.agg (slotV e' tl)) ∧ BytesAt q V w2.heap.size 8 (slotB e' tl) w' ∧ Below w2.heap.size w2 w') (fun _ => undef) (by kernel_rfl) (by kernel_rfl) (by kernel_rfl) (by simp only [List.take_succ_cons, List.take_zero, putAll, Act.put, List.setIfInBounds_toArray, List.set_cons_zero, List.set_cons_succ]) ⟨Val.none, Val.none, Val.none, Val.none, Val.none, Val.none, Val.none, Val.none, BytesAt.none, HD0.out⟩ ?_ ?_
      · simp only [List.take_succ_cons, List.take_zero, putAll, Nat.zero_add, Nat.reduceAdd, Act.put, List.setIfInBounds_toArray, List.set_cons_zero, List.set_cons_succ]
        refine FreeSteps.cons ?_ (FreeSteps.cons ?_ (FreeSteps.cons ?_ (FreeSteps.cons ?_ (FreeSteps.cons ?_ (FreeSteps.cons ?_ (FreeSteps.cons ?_ (FreeSteps.cons ?_ (FreeSteps.cons ?_ FreeSteps.nil))))))))
        all_goals (refine FreeStep.fresh rfl ?_; rintro q V wq hr hu ⟨h0, h1, h2, h3, h4, h5, h6, h7, h8, hb⟩ K hK)
        · exact op_move (.tmp 0) rfl _ rfl (hK _ _ ⟨.same, h1.ne (by decide), h2.ne (by decide), h3.ne (by decide), h4.ne (by decide), h5.ne (by decide), h6.ne (by decide), h7.ne (by decide), h8.ne (by decide) (Below.refl _ _), hb⟩)
        · exact op_nilCheck (.tmp 24) rfl _ (h0 (hr { on := 0, ground := .data } (by simp) rfl)) (hK _ _ ⟨h0.ne (by decide), .same, h2.ne (by decide), h3.ne (by decide), h4.ne (by decide), h5.ne (by decide), h6.ne (by decide), h7.ne (by decide), h8.ne (by decide) (Below.refl _ _), hb⟩)
        · exact op_fieldAt 57 (.tmp 25) 0 rfl _ _ (h1 (hr { on := 1, ground := .data } (by simp) rfl)) HFA.out (hK _ _ ⟨h0.ne (by decide), h1.ne (by decide), .same, h3.ne (by decide), h4.ne (by decide), h5.ne (by decide), h6.ne (by decide), h7.ne (by decide), h8.ne (by decide) (Below.refl _ _), hb⟩)
        · exact op_load_cell 26 (.tmp 26) rfl _ _ (h2 (hr { on := 2, ground := .data } (by simp) rfl)) (HCF.out wq hb).1 Try.isAgg26 (hK _ _ ⟨h0.ne (by decide), h1.ne (by decide), h2.ne (by decide), .same, h4.ne (by decide), h5.ne (by decide), h6.ne (by decide), h7.ne (by decide), h8.ne (by decide) (Below.refl _ _), hb⟩)
        · exact op_fieldAt 49 (.tmp 4) 0 rfl _ _ rfl HFX.out (hK _ _ ⟨h0.ne (by decide), h1.ne (by decide), h2.ne (by decide), h3.ne (by decide), .same, h5.ne (by decide), h6.ne (by decide), h7.ne (by decide), h8.ne (by decide) (Below.refl _ _), hb⟩)
        · exact op_load_cell 3 (.tmp 28) rfl _ _ (h4 (hr { on := 4, ground := .data } (by simp) rfl)) (HCF.out wq hb).2.1 Try.isAgg3 (hK _ _ ⟨h0.ne (by decide), h1.ne (by decide), h2.ne (by decide), h3.ne (by decide), h4.ne (by decide), .same, h6.ne (by decide), h7.ne (by decide), h8.ne (by decide) (Below.refl _ _), hb⟩)
        · exact op_bin .rem 3 3 (.tmp 29) (.const (.int .i64 2)) rfl _ _ _ (h5 (hr { on := 5, ground := .data } (by simp) rfl)) rfl HG1.out HG2.out (hK _ _ ⟨h0.ne (by decide), h1.ne (by decide), h2.ne (by decide), h3.ne (by decide), h4.ne (by decide), h5.ne (by decide), .same, h7.ne (by decide), h8.ne (by decide) (Below.refl _ _), hb⟩)
        · exact op_load_cells 49 (.tmp 4) rfl gx (slotV e' tl) 49 _ rfl (HX2.out.below hb) Try.underlying49 rfl HIS.out (hK _ _ ⟨h0.ne (by decide), h1.ne (by decide), h2.ne (by decide), h3.ne (by decide), h4.ne (by decide), h5.ne (by decide), h6.ne (by decide), .same, h8.ne (by decide) (Below.refl _ _), hb⟩)
        · refine op_call Try.func41 rfl rfl rfl [.agg (slotV e' tl)] (congrArg (fun x => [x]) (h7 (hr { on := 7, ground := .data } (by simp) rfl))) (HBY.out wq) ?_
          rintro y w5 ⟨g, rfl, hnb, hgb0, hbb⟩
          have hgb : w2.heap.size ≤ g := Nat.le_trans hb.size hgb0
          exact ⟨_, rfl, hK _ _ ⟨h0.ne (by decide), h1.ne (by decide), h2.ne (by decide), h3.ne (by decide), h4.ne (by decide), h5.ne (by decide), h6.ne (by decide), h7.ne (by decide), .same hgb hnb, hb.trans (hbb.mono hb.size)⟩⟩
      rintro q V w5 hall ⟨h0, h1, h2, h3, h4, h5, h6, h7, h8, hb5⟩
      have v0 := h0 (hall 0 (by decide))
      have v1 := h1 (hall 1 (by decide))
      have v2 := h2 (hall 2 (by decide))
      have v3 := h3 (hall 3 (by decide))
      have v4 := h4 (hall 4 (by decide))
      have v5 := h5 (hall 5 (by decide))
      have v6 := h6 (hall 6 (by decide))
      have v7 := h7 (hall 7 (by decide))
      obtain ⟨g, v8, hgb, hnb⟩ := h8 (hall 8 (by decide))
      simp only [List.take_succ_cons, List.take_zero, List.drop_succ_cons, List.drop_zero, putAll, Nat.zero_add, Nat.reduceAdd, v0, v1, v2, v3, v4, v5, v6, v7, v8, Act.put, List.setIfInBounds_toArray, List.set_cons_zero, List.set_cons_succ]
      have HW5 := Lib.hid (HWR.out g w5 hb5 hgb hnb)
      have HB5 := Lib.hid hb5
      clear h0 h1 h2 h3 h4 h5 h6 h7 h8 v0 v1 v2 v3 v4 v5 v6 v7 v8 hall hb5 hgb hnb HWR HBY HFA HFX HG1 HG2 HIS HX2
      go_wp2_with fail
      refine HW5.out.mono ?_
      rintro x w6 ⟨rfl, O3, hd3, ht3⟩
      have HD3 := Lib.hid hd3
      have HT3 := Lib.hid ((HT2.out.below HB5.out).trans ht3)
      clear hd3 ht3 HW5 HB5 HD2
      rcases HRD.out with ⟨hE, htu⟩ | ⟨hE, hfz, hdn⟩
      · have HST := Lib.hid (store_last htu)
        rw [HEE.out] at HST
        have hb3 : Cells b 57 (segV (.pointer (some ad)) e S.length 0) w6 := (turn_keeps HT3.out HLT2.out.1 HBO.out).1.trans HCA.out
        have c0 := hb3.at 0
        simp only [segV, List.getElem?_toArray, List.getElem?_cons_zero] at c0
        have HSY := Lib.hid (dev7_sync O3 (.pointer (some ad)) s3 w6 HD3.out (HF3.out.mono (by have := HN.out; omega)))
        have HF4 := Lib.hid HF3.out.sync
        have HL4 := Shut.mk ((syncS_len s3).trans HL3.out)
        rw [hE]
        clear hE htu hb3 HRD
        go_wp2_with fail
        refine HSY.out.mono ?_
        rintro x w7 ⟨rfl, O4, hd4, ht4⟩
        have HD4 := Lib.hid hd4
        have HT4 := Lib.hid (HT3.out.trans ht4)
        clear hd4 ht4 HSY HD3 HT3
        go_wp2_with fail
        go_ret
        refine ⟨_, _, O4, rfl, HD4.out, (Turn.of HA.out).trans HT4.out, HF4.out.mono (by omega), HL4.out, ?_⟩
        rw [StoreR, HEE.out]
        rcases HST.out with ⟨h1, h2⟩ | ⟨h1, h2, h3⟩
        · exact .inl ⟨h1, h2, fun h => syncS_fuse (HFU3.out h)⟩
        · exact .inr ⟨h1, fun h => h2 (HFU3.out h), h3⟩
      · have HDN := Lib.hid hdn
        have HFZ := Lib.hid hfz
        rw [hE]
        clear hE hdn hfz HRD
        go_wp2_with fail
        go_ret
        refine ⟨7, _, O3, rfl, HD3.out, (Turn.of HA.out).trans HT3.out, HF3.out.mono (by omega), HL3.out, ?_⟩
        rw [StoreR, HEE.out]
        exact .inr ⟨rfl, fun h => HFZ.out (HFU2.out h), HDN.out⟩
    · have HDN := Lib.hid hdn
      have HFZ := Lib.hid hfz
      rw [hE]
      clear hE hdn hfz HM
      go_wp2_with fail
      go_ret
      exact ⟨7, _, O2, rfl, HD2.out, (Turn.of HA.out).trans HT2.out, HF2.out.mono (by omega), HL2.out, .inr ⟨rfl, fun h => HFZ.out (HFU.out h), .inl HDN.out⟩⟩
  · have HDN := Lib.hid hdown
    have HFU := Lib.hid hfu
    clear hdown hfu HK1 HKX1
    go_wp2_with fail
    go_ret
    exact ⟨7, s1, O1, rfl, HD1.out, (Turn.of HA.out).trans HT1.out, HF1.out.mono (by omega), HL1.out, .inr ⟨rfl, HFU.out, .inl HDN.out⟩⟩
end Go.Proofs.Ythnagnjcbgcnfaa
