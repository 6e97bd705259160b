/-
  Joined: The developers' Good of layer 15.; Sizes of drafts and operations that the laws let through.; pack.Num: the number's bytes.; A builder of the call's own; pack.List.; The developers' DraftText.; The developers' Text of layer 15.; What a law's arguments are: slices of texts, opened.; The developers' Out, Outs of layer 15.; What the laws of layer 15 ask first: alive, great.
-/
import Derived.ChangeOld
import Derived.Deep.OwnRows
import Derived.Laws.IdiomStrings
import Derived.Lib.AppendStr
import Derived.Lib.Builder
import Derived.Lib.UnsafeStr
import Derived.Lib.Walk
import Derived.OpenShut
import Derived.ProofKit
import Derived.Shelf.Small.Bits
import Derived.Shelf.Strconv.Itoa0
import Derived.Shelf.Strings.Builder1
import Derived.Shelf.Strings.BuilderF
import Derived.Shelf.Strings.BuilderK
import Derived.ShutString
import Derived.SizedLaws
import Derived.SliceStrings
import Derived.Test.YtenmkfjgjemiiaaProg
import Derived.Test.YtenmkfjgjemiiaaRows
import Derived.Test.YtenmkfjgjemiiaaJ01
namespace Go.Proofs.Ytenmkfjgjemiiaa
open Go.RowKit Go.BigFrame
def localE (d : DraftN) : EntN := ⟨1, d, 0, 0, zeroI, 0, [], []⟩
theorem localE_ok {d : DraftN} (h : IdOk d.ref) : (localE d).Ok := ⟨h, zeroI_ok⟩
theorem built_local (d : DraftN) (hd : IdOk d.ref) : Try.prog.built 30 [(0, .int .i64 1), (1, .agg (draftV d))] = some (entV (localE d)) := by
  rw [ent_fill, fill_kind, fill_draft _ _ ⟨zeroI_ok, zeroI_ok⟩ _ hd, fill_end]
  rfl
theorem results_cells {P : Program} {fn : Func} {p : Tmp} {ty : TypeId} (h : fn.results = #[.cell p ty]) (tmps : Array Value) (w : World) (g : Nat) (cs : Array Value) (t : TypeId) (d : TypeDesc)
    (hp : tmps.getD p undef = .pointer (some ⟨g, 0, none⟩)) (hg : Cells g t cs w)
    (hu : P.underlying ty = some d) (hd : (match d with | .struct _ | .array _ _ => true | _ => false) = true) (hi : (P.info? ty).map (·.size) = some cs.size) :
    (results fn tmps).run P w = .ok (.agg cs) w :=
  results_cell_row h tmps w g t _ (0, 0) d hp hg hu hd hi
theorem goodE1 {e : EntN} (h : e.kind = 1) : GoodE e ↔ e = localE e.d ∧ GoodD e.d := by
  obtain ⟨k, d, f, q, p, m, y, s⟩ := e
  simp only at h
  subst h
  simp only [GoodE, BareE, localE, EntN.mk.injEq, true_and]
  constructor
  · rintro (⟨a, ⟨b1, b2, b3, b4⟩, c, e⟩ | ⟨h, _⟩ | ⟨h, _⟩)
    · exact ⟨⟨b1, b2, b3, c, e, b4⟩, a⟩
    · cases h
    · cases h
  · rintro ⟨⟨b1, b2, b3, c, e, b4⟩, a⟩
    exact .inl ⟨a, ⟨b1, b2, b3, b4⟩, c, e⟩
def OrigE (e : EntN) : Prop := 0 ≤ e.src ∧ e.src ≤ 4 ∧ 1 ≤ e.seq
instance (e : EntN) : Decidable (OrigE e) := by unfold OrigE; infer_instance
theorem goodE2 {e : EntN} (h : e.kind = 2) : GoodE e ↔ e.d = noD ∧ OrigE e ∧ OutE e ∧ e.sig.length ≤ 1024 := by
  rw [GoodE, OrigE]
  constructor
  · rintro (⟨a, _⟩ | ⟨_, a, b, c, d, f, g⟩ | ⟨a, _⟩)
    · omega
    · exact ⟨b, ⟨c, d, f⟩, a, g⟩
    · omega
  · rintro ⟨b, ⟨c, d, f⟩, a, g⟩
    exact .inr (.inl ⟨h, a, b, c, d, f, g⟩)
theorem goodE3 {e : EntN} (h : e.kind = 3) : GoodE e ↔ e = outE e.mask e.pay ∧ OutE e := by
  obtain ⟨k, d, f, q, p, m, y, s⟩ := e
  simp only at h
  subst h
  simp only [GoodE, BareE, outE, EntN.mk.injEq, true_and]
  constructor
  · rintro (⟨h, _⟩ | ⟨h, _⟩ | ⟨a, b, c1, c2, c3, c4⟩)
    · cases h
    · cases h
    · exact ⟨⟨b, c1, c2, c3, c4⟩, a⟩
  · rintro ⟨⟨b, c1, c2, c3, c4⟩, a⟩
    exact .inr (.inr ⟨a, b, c1, c2, c3, c4⟩)
theorem goodE0 {e : EntN} (h1 : e.kind ≠ 1) (h2 : e.kind ≠ 2) (h3 : e.kind ≠ 3) : ¬ GoodE e := by
  rintro (h | h | h)
  · exact h1 h.1
  · exact h2 h.1
  · exact h3 h.1
set_option maxHeartbeats 4000000 in
set_option maxRecDepth 100000 in
theorem dev_local15 (d : DraftN) (hr : IdOk d.ref) (w : World) :
    Calls Try.prog 23 #[.agg (draftV d)] w fun r w' => r = .returned (.agg (entV (localE d))) ∧ Below w.heap.size w w' := by
  have HZE := Lib.hid (show (Try.prog.info? 30).bind (·.zero) = some (.agg (entL noE).toArray) by kernel_rfl)
  have HSD := Lib.hid (show (Try.prog.info? 28).map (·.size) = some (draftV d).size by rw [draftV_size hr.1]; exact Try.sizeD)
  have HSE := Lib.hid (sizeEV (localE_ok hr))
  have HBL := Lib.hid (built_local d hr)
  have HSZ := Lib.hid (show (entV noE).size = (entV (localE d)).size by rw [entV_size (localE_ok hr)]; rfl)
  have hx : Cells w.heap.size 28 (draftV d) (w.alloc (.cells (draftV d) 28)) := heap_alloc_new w _
  have hb : Below w.heap.size w (w.alloc (.cells (draftV d) 28)) := (Below.refl _ _).alloc (Nat.le_refl _) _
  have HX := Lib.hid hx
  have HB := Lib.hid hb
  clear hr hx hb
  go_enter Try.func23, Try.ntmps23
  go_upto_region 1 with (first | (refine wpList_alloc_of rfl 30 rfl (entL noE) HZE.out ?_))
  obtain ⟨w1, hw1⟩ : ∃ x, x = w.alloc (.cells (draftV d) 28) := ⟨_, rfl⟩
  rw [← hw1] at HX HB ⊢
  clear hw1
  have hx : Cells w1.heap.size 30 (entV noE) (w1.alloc (.cells (entV noE) 30)) := heap_alloc_new w1 _
  have hb : Below w1.heap.size w1 (w1.alloc (.cells (entV noE) 30)) := (Below.refl _ _).alloc (Nat.le_refl _) _
  change Code.wp _ _ _ _ (w1.alloc (.cells (entV noE) 30))
  have HX2 := Lib.hid (HX.out.below hb)
  have HB2 := Lib.hid (HB.out.trans (hb.mono HB.out.size))
  have HG := Lib.hid HB.out.size
  obtain ⟨w2, hw2⟩ : ∃ x, x = w1.alloc (.cells (entV noE) 30) := ⟨_, rfl⟩
  obtain ⟨g, hg⟩ : ∃ x, w1.heap.size = x := ⟨_, rfl⟩
  rw [← hw2] at hx HX2 HB2 ⊢
  rw [hg] at hx HG ⊢
  have HE := Lib.hid hx
  clear hw2 hg hx hb HX HB
  refine wp_region_lit ?_
  refine wpList_load_cells rfl 28 _ rfl w.heap.size (draftV d) 28 _ rfl HX2.out Try.underlying28 rfl HSD.out ?_
  simp only [Act.put, List.setIfInBounds_toArray, List.set_cons_zero, List.set_cons_succ]
  refine wpList_build_val rfl 30 _ rfl [(0, .int .i64 1), (1, .agg (draftV d))] _ (by simp; exact ⟨rfl, rfl⟩) HBL.out ?_
  simp only [Act.put, List.setIfInBounds_toArray, List.set_cons_zero, List.set_cons_succ]
  refine wpList_store_cells rfl 30 _ _ rfl rfl g (entV noE) (entV (localE d)) 30 rfl rfl HE.out HSE.out HSZ.out (entV_all _) ?_
  intro w9 hc hb
  have HC9 := Lib.hid hc.out
  have HB9 := Lib.hid (show Below w.heap.size w w9 from But.toBelow HB2.out hb.out HG.out HB2.out.size)
  clear hc hb HE HB2
  go_wp2_with fail
  refine bodyPost_ret (results_cells rfl _ _ g (entV (localE d)) 30 _ rfl HC9.out Try.underlying30 rfl HSE.out) rfl ?_
  exact ⟨rfl, HB9.out⟩
set_option maxHeartbeats 4000000 in
set_option maxRecDepth 100000 in
theorem dev_send15 (m : Int) (p : List UInt8) (w : World) :
    Calls Try.prog 27 #[.int .i64 m, .string ⟨p.toArray⟩] w fun r w' => r = .returned (.agg (entV (outE m p))) ∧ Below w.heap.size w w' := by
  have HZE := Lib.hid (show (Try.prog.info? 30).bind (·.zero) = some (.agg (entL noE).toArray) by kernel_rfl)
  have HSE := Lib.hid (sizeEV (outE_ok m p))
  have HBL := Lib.hid (built_out m p)
  have HSZ := Lib.hid (show (entV noE).size = (entV (outE m p)).size by rw [entV_size (outE_ok m p)]; rfl)
  have hx : Cells w.heap.size 30 (entV noE) (w.alloc (.cells (entV noE) 30)) := heap_alloc_new w _
  have hb : Below w.heap.size w (w.alloc (.cells (entV noE) 30)) := (Below.refl _ _).alloc (Nat.le_refl _) _
  go_enter Try.func27, Try.ntmps27
  go_upto_region 1 with (first | (refine wpList_alloc_of rfl 30 rfl (entL noE) HZE.out ?_))
  change Code.wp _ _ _ _ (w.alloc (.cells (entV noE) 30))
  obtain ⟨w2, hw2⟩ : ∃ x, x = w.alloc (.cells (entV noE) 30) := ⟨_, rfl⟩
  rw [← hw2] at hx hb ⊢
  have HE := Lib.hid hx
  have HB := Lib.hid hb
  clear hw2 hx hb
  go_wp2_with (first
    | (refine wpList_build_val rfl 30 _ rfl [(0, .int .i64 3), (5, .int .i64 m), (6, .string ⟨p.toArray⟩)] _ rfl HBL.out ?_)
    | (refine wpList_store_cells rfl 30 _ _ rfl rfl w.heap.size (entV noE) (entV (outE m p)) 30 rfl rfl HE.out HSE.out HSZ.out (entV_all _) ?_))
  intro w9 hc hb
  have HC9 := Lib.hid hc.out
  have HB9 := Lib.hid (show Below w.heap.size w w9 from But.toBelow HB.out hb.out (Nat.le_refl _) HB.out.size)
  clear hc hb HE HB
  go_wp2_with fail
  refine bodyPost_ret (results_cells rfl _ _ w.heap.size (entV (outE m p)) 30 _ rfl HC9.out Try.underlying30 rfl HSE.out) rfl ?_
  exact ⟨rfl, HB9.out⟩
set_option maxHeartbeats 4000000 in
set_option maxRecDepth 100000 in
theorem dev_origin15 (e : EntN) (he : e.Ok) (w : World) :
    Calls Try.prog 25 #[.agg (entV e)] w fun r w' => r = .returned (.bool (decide (OrigE e))) ∧ Below w.heap.size w w' := by
  have hx : Cells w.heap.size 30 (entV e) (w.alloc (.cells (entV e) 30)) := heap_alloc_new w _
  have hb : Below w.heap.size w (w.alloc (.cells (entV e) 30)) := (Below.refl _ _).alloc (Nat.le_refl _) _
  have HB := Lib.hid hb
  obtain ⟨c0, cd, cf, cq, cp, cm, cy, cs⟩ := ent_cells he hx
  have HCF := Lib.hid cf
  have HCQ := Lib.hid cq
  clear hx hb c0 cd cf cq cp cm cy cs
  obtain ⟨f, hf⟩ : ∃ x, e.src = x := ⟨_, rfl⟩
  obtain ⟨q, hq⟩ : ∃ x, e.seq = x := ⟨_, rfl⟩
  rw [hf] at HCF
  rw [hq] at HCQ
  have HO := Shut.mk (show decide (OrigE e) = (decide (0 ≤ f) && decide (f < 5) && decide (0 < q)) by
    rw [Bool.eq_iff_iff]
    simp only [decide_eq_true_eq, Bool.and_eq_true, OrigE, hf, hq]
    omega)
  clear hf hq
  go_enter Try.func25, Try.ntmps25
  go_upto_region 1 with (fail)
  obtain ⟨w1, hw1⟩ : ∃ x, x = w.alloc (.cells (entV e) 30) := ⟨_, rfl⟩
  rw [← hw1] at HB HCF HCQ ⊢
  clear hw1
  have cf := HCF.out
  have cq := HCQ.out
  clear HCF HCQ
  by_cases h1 : 0 ≤ f
  · have g1 : decide (0 ≤ f) = true := decide_eq_true h1
    by_cases h2 : f < 5
    · have g2 : decide (f < 5) = true := decide_eq_true h2
      by_cases h3 : 0 < q
      · have g3 : decide (0 < q) = true := decide_eq_true h3
        rw [g1, g2, g3] at HO
        go_wp2_with fail
        go_ret
        exact ⟨by rw [HO.out]; rfl, HB.out⟩
      · have g3 : decide (0 < q) = false := decide_eq_false h3
        rw [g1, g2, g3] at HO
        go_wp2_with fail
        go_ret
        exact ⟨by rw [HO.out]; rfl, HB.out⟩
    · have g2 : decide (f < 5) = false := decide_eq_false h2
      rw [g1, g2] at HO
      go_wp2_with fail
      go_ret
      exact ⟨by rw [HO.out]; rfl, HB.out⟩
  · have g1 : decide (0 ≤ f) = false := decide_eq_false h1
    rw [g1] at HO
    go_wp2_with fail
    go_ret
    exact ⟨by rw [HO.out]; rfl, HB.out⟩
set_option maxHeartbeats 4000000 in
set_option maxRecDepth 100000 in
theorem dev_cargo15 (e : EntN) (he : e.Ok) (w : World) :
    Calls Try.prog 26 #[.agg (entV e)] w fun r w' => r = .returned (.bool (decide (OutE e))) ∧ Below w.heap.size w w' := by
  have hx : Cells w.heap.size 30 (entV e) (w.alloc (.cells (entV e) 30)) := heap_alloc_new w _
  have hb : Below w.heap.size w (w.alloc (.cells (entV e) 30)) := (Below.refl _ _).alloc (Nat.le_refl _) _
  have HB := Lib.hid hb
  obtain ⟨c0, cd, cf, cq, cp, cm, cy, cs⟩ := ent_cells he hx
  have HCF := Lib.hid cm
  have HCQ := Lib.hid cy
  clear hx hb c0 cd cf cq cp cm cy cs
  obtain ⟨f, hf⟩ : ∃ x, e.mask = x := ⟨_, rfl⟩
  obtain ⟨q, hq⟩ : ∃ n, e.pay.length = n := ⟨_, rfl⟩
  rw [hf] at HCF
  have HO := Shut.mk (show decide (OutE e) = (decide (0 < f) && decide (f ≤ 31) && decide ((q : Int) ≤ 2048)) by
    rw [Bool.eq_iff_iff]
    simp only [decide_eq_true_eq, Bool.and_eq_true, OutE, hf, hq]
    omega)
  clear hf
  go_enter Try.func26, Try.ntmps26
  go_upto_region 1 with (fail)
  obtain ⟨w1, hw1⟩ : ∃ x, x = w.alloc (.cells (entV e) 30) := ⟨_, rfl⟩
  rw [← hw1] at HB HCF HCQ ⊢
  clear hw1
  have cf := HCF.out
  have cq := HCQ.out
  clear HCF HCQ
  by_cases h1 : 0 < f
  · have g1 : decide (0 < f) = true := decide_eq_true h1
    by_cases h2 : f ≤ 31
    · have g2 : decide (f ≤ 31) = true := decide_eq_true h2
      by_cases h3 : (q : Int) ≤ 2048
      · have g3 : decide ((q : Int) ≤ 2048) = true := decide_eq_true h3
        rw [g1, g2, g3] at HO
        go_wp2_with fail
        go_ret
        exact ⟨by rw [HO.out]; rfl, HB.out⟩
      · have g3 : decide ((q : Int) ≤ 2048) = false := decide_eq_false h3
        rw [g1, g2, g3] at HO
        go_wp2_with fail
        go_ret
        exact ⟨by rw [HO.out]; rfl, HB.out⟩
    · have g2 : decide (f ≤ 31) = false := decide_eq_false h2
      rw [g1, g2] at HO
      go_wp2_with fail
      go_ret
      exact ⟨by rw [HO.out]; rfl, HB.out⟩
  · have g1 : decide (0 < f) = false := decide_eq_false h1
    rw [g1] at HO
    go_wp2_with fail
    go_ret
    exact ⟨by rw [HO.out]; rfl, HB.out⟩
set_option maxHeartbeats 4000000 in
set_option maxRecDepth 100000 in
theorem dev_good15 (e : EntN) (he : e.Len) (w : World) :
    Calls Try.prog 10 #[.agg (entV e)] w fun r w' => r = .returned (.bool (decide (GoodE e))) ∧ Below w.heap.size w w' := by
  have hx : Cells w.heap.size 30 (entV e) (w.alloc (.cells (entV e) 30)) := heap_alloc_new w _
  have hb : Below w.heap.size w (w.alloc (.cells (entV e) 30)) := (Below.refl _ _).alloc (Nat.le_refl _) _
  have HX := Lib.hid hx
  have HB := Lib.hid hb
  have HE := Lib.hid he
  have HSE := Lib.hid (sizeEV he.ok)
  have HSD := Lib.hid (show (Try.prog.info? 28).map (·.size) = some (draftL e.d).length by rw [draftL_len he.ok.ref.1]; exact Try.sizeD)
  clear hx hb he
  go_enter Try.func10, Try.ntmps10
  go_upto_region 1 with (fail)
  obtain ⟨w1, hw1⟩ : ∃ x, x = w.alloc (.cells (entV e) 30) := ⟨_, rfl⟩
  rw [← hw1] at HX HB ⊢
  clear hw1
  obtain ⟨c0, cd, cf, cq, cp, cm, cy, cs⟩ := ent_cells HE.out.ok HX.out
  have HBL := Lib.hid HX.out.lt
  have HCX := Lib.hid (fun (w' : World) (q : Below w1.heap.size w1 w') => HX.out.below q)
  have HCD := Lib.hid (fun (w' : World) (q : Below w1.heap.size w1 w') => rangeAt_belowI cd q HX.out.lt)
  have HCM := Lib.hid (fun (w' : World) (q : Below w1.heap.size w1 w') => (q.cell (p := ⟨w.heap.size, 70, none⟩) HX.out.lt).trans cm)
  have HCY := Lib.hid (fun (w' : World) (q : Below w1.heap.size w1 w') => (q.cell (p := ⟨w.heap.size, 71, none⟩) HX.out.lt).trans cy)
  have HCS := Lib.hid (fun (w' : World) (q : Below w1.heap.size w1 w') => (q.cell (p := ⟨w.heap.size, 72, none⟩) HX.out.lt).trans cs)
  obtain ⟨k, hk⟩ : ∃ x, e.kind = x := ⟨_, rfl⟩
  have HK := Shut.mk hk
  rw [hk] at c0
  clear cd cf cq cp cm cy cs hk
  by_cases h1 : k = 1
  · have g1 : (k == 1) = true := by simp [h1]
    have HGI := Shut.mk (goodE1 (HK.out.trans h1))
    have HLC := Lib.hid (fun w' => dev_local15 e.d HE.out.ok.ref w')
    have HGD := Lib.hid (fun w' => dev_goodDraft e.d HE.out.ok.ref HE.out.key HE.out.val w')
    obtain ⟨a, ha⟩ : ∃ b, decide (e = localE e.d) = b := ⟨_, rfl⟩
    obtain ⟨b, hb⟩ : ∃ b, decide (GoodD e.d) = b := ⟨_, rfl⟩
    have HEQ := Lib.hid (fun w' => eql_ent e (localE e.d) HE.out.ok (localE_ok HE.out.ok.ref) w')
    rw [ha] at HEQ
    rw [hb] at HGD
    have HZ := Shut.mk (show decide (GoodE e) = (a && b) by
      rw [← ha, ← hb, Bool.eq_iff_iff]
      simp only [decide_eq_true_eq, Bool.and_eq_true]
      exact HGI.out)
    clear ha hb HGI h1
    go_upto_region 3 with (fail)
    cases a
    all_goals
      refine wp_region_class (fun w' => Below w1.heap.size w1 w') (by kernel_rfl) (by kernel_rfl) (Below.refl _ _).drew ?_
      repeat (first
        | go_big_quiet_skip
        | (go_big_quiet_want; refine quiet_load_cells 30 _ rfl w.heap.size (entV e) 30 _ rfl HCX.out Try.underlying30 rfl HSE.out ?_; go_big_quiet_on; simp only [Act.put, List.setIfInBounds_toArray, List.set_cons_zero, List.set_cons_succ])
        | (go_big_quiet_want; refine quiet_load_row 28 _ rfl w.heap.size 1 (draftL e.d) _ rfl HCD.out Try.underlying28 rfl HSD.out ?_; go_big_quiet_on; simp only [Act.put, List.setIfInBounds_toArray, List.set_cons_zero, List.set_cons_succ])
        | (go_big_quiet_want; refine quiet_bin .eql 30 _ _ _ rfl (.agg (entV e)) (.agg (entV (localE e.d))) _ rfl rfl (guard_ent .eql (.inl rfl) _ _ _ _) HEQ.out ?_; go_big_quiet_on; simp only [Act.put, List.setIfInBounds_toArray, List.set_cons_zero, List.set_cons_succ])
        | go_big_quiet_step ((intro hs'; first
            | (go_at_call 23; exact (HLC.out _).mono fun e w' h => ⟨h.1, hs'.trans (h.2.mono hs'.size)⟩)
            | (go_at_call 24; exact (HGD.out _).mono fun e w' h => ⟨h.1, hs'.trans (h.2.mono hs'.size)⟩)
            | rfl)))
      refine wpQuiet_nil ?_
      intro w2 hs2
      have HB2 := Lib.hid (HB.out.trans (hs2.mono HB.out.size))
      clear hs2
      go_wp2_with fail
      go_ret
      exact ⟨by rw [HZ.out]; rfl, HB2.out⟩
  have g1 : (k == 1) = false := by simp [h1]
  by_cases h2 : k = 2
  · have g2 : (k == 2) = true := by simp [h2]
    have HGI := Shut.mk (goodE2 (HK.out.trans h2))
    have HOR := Lib.hid (fun w' => dev_origin15 e HE.out.ok w')
    have HCG := Lib.hid (fun w' => dev_cargo15 e HE.out.ok w')
    obtain ⟨sl, hsl⟩ : ∃ n, e.sig.length = n := ⟨_, rfl⟩
    obtain ⟨a, ha⟩ : ∃ b, decide (e.d = noD) = b := ⟨_, rfl⟩
    obtain ⟨b, hb⟩ : ∃ b, decide (OrigE e) = b := ⟨_, rfl⟩
    obtain ⟨c, hc⟩ : ∃ b, decide (OutE e) = b := ⟨_, rfl⟩
    obtain ⟨d, hd⟩ : ∃ b, decide ((sl : Int) ≤ 1024) = b := ⟨_, rfl⟩
    have HEQ := Lib.hid (fun w' => eql_draft e.d noD HE.out.ok.ref zeroI_ok w')
    rw [ha] at HEQ
    rw [hb] at HOR
    rw [hc] at HCG
    have HZ := Shut.mk (show decide (GoodE e) = (a && b && c && d) by
      rw [← ha, ← hb, ← hc, ← hd, ← hsl, Bool.eq_iff_iff]
      simp only [decide_eq_true_eq, Bool.and_eq_true]
      rw [HGI.out]
      constructor
      · rintro ⟨x, y, z, u⟩
        exact ⟨⟨⟨x, y⟩, z⟩, by omega⟩
      · rintro ⟨⟨⟨x, y⟩, z⟩, u⟩
        exact ⟨x, y, z, by omega⟩)
    have HBD := Lib.hid (show Try.prog.built 28 [] = some (draftV noD) from built_draft0)
    clear ha hb hc HGI h1 h2
    go_upto_region 5 with (fail)
    cases a with
    | false =>
      go_wp2_with (first
      | (refine wpList_load_mid rfl 28 _ rfl w.heap.size 1 rfl _ _ (HCD.out _ (Below.refl _ _)) Try.underlying28 rfl HSD.out ?_)
      | (refine wpList_build_val rfl 28 #[] rfl [] _ (by simp) HBD.out ?_)
      | (refine wpList_bin rfl .eql 28 _ _ _ rfl (.agg (draftV e.d)) (.agg (draftV noD)) _ rfl rfl (guard_draft _ _ _ _) HEQ.out ?_)
      | (refine wpList_load_cells_want (by rfl) 30 _ rfl w.heap.size (entV e) 30 _ rfl (HCX.out _ (Below.refl _ _)) Try.underlying30 rfl HSE.out ?_))
      go_ret
      exact ⟨by rw [HZ.out]; rfl, HB.out⟩
    | true =>
    go_wp2_with (first
      | (refine wpList_load_mid rfl 28 _ rfl w.heap.size 1 rfl _ _ (HCD.out _ (Below.refl _ _)) Try.underlying28 rfl HSD.out ?_)
      | (refine wpList_build_val rfl 28 #[] rfl [] _ (by simp) HBD.out ?_)
      | (refine wpList_bin rfl .eql 28 _ _ _ rfl (.agg (draftV e.d)) (.agg (draftV noD)) _ rfl rfl (guard_draft _ _ _ _) HEQ.out ?_)
      | (refine wpList_load_cells_want (by rfl) 30 _ rfl w.heap.size (entV e) 30 _ rfl (HCX.out _ (Below.refl _ _)) Try.underlying30 rfl HSE.out ?_))
    refine (HOR.out w1).mono ?_
    rintro r w2 ⟨rfl, hb⟩
    have HB2 := Lib.hid (hb.mono HB.out.size)
    have HBW := Lib.hid hb
    clear hb HOR
    cases b with
    | false =>
      go_wp2_with fail
      go_ret
      exact ⟨by rw [HZ.out]; rfl, HB.out.trans HB2.out⟩
    | true =>
    go_wp2_with (refine wpList_load_cells_want (by rfl) 30 _ rfl w.heap.size (entV e) 30 _ rfl (HCX.out _ HBW.out) Try.underlying30 rfl HSE.out ?_)
    refine (HCG.out w2).mono ?_
    rintro r w3 ⟨rfl, hb⟩
    have HB3 := Lib.hid (HBW.out.trans (hb.mono HBW.out.size))
    clear hb HBW HCG HB2
    have cs := HCS.out w3 HB3.out
    cases c with
    | false =>
      go_wp2_with fail
      go_ret
      exact ⟨by rw [HZ.out]; rfl, HB.out.trans (HB3.out.mono HB.out.size)⟩
    | true =>
    cases d with
    | false =>
      go_wp2_with fail
      go_ret
      exact ⟨by rw [HZ.out]; rfl, HB.out.trans (HB3.out.mono HB.out.size)⟩
    | true =>
      go_wp2_with fail
      go_ret
      exact ⟨by rw [HZ.out]; rfl, HB.out.trans (HB3.out.mono HB.out.size)⟩
  have g2 : (k == 2) = false := by simp [h2]
  by_cases h3 : k = 3
  · have g3 : (k == 3) = true := by simp [h3]
    have HGI := Shut.mk (goodE3 (HK.out.trans h3))
    have HLC := Lib.hid (fun w' => dev_send15 e.mask e.pay w')
    have HGD := Lib.hid (fun w' => dev_cargo15 e HE.out.ok w')
    obtain ⟨a, ha⟩ : ∃ b, decide (e = outE e.mask e.pay) = b := ⟨_, rfl⟩
    obtain ⟨b, hb⟩ : ∃ b, decide (OutE e) = b := ⟨_, rfl⟩
    have HEQ := Lib.hid (fun w' => eql_ent e (outE e.mask e.pay) HE.out.ok (outE_ok _ _) w')
    rw [ha] at HEQ
    rw [hb] at HGD
    have HZ := Shut.mk (show decide (GoodE e) = (a && b) by
      rw [← ha, ← hb, Bool.eq_iff_iff]
      simp only [decide_eq_true_eq, Bool.and_eq_true]
      exact HGI.out)
    clear ha hb HGI h1 h2 h3
    go_upto_region 7 with (fail)
    cases a
    all_goals
      refine wp_region_class (fun w' => Below w1.heap.size w1 w') (by kernel_rfl) (by kernel_rfl) (Below.refl _ _).drew ?_
      repeat (first
        | go_big_quiet_skip
        | (go_big_quiet_want; refine quiet_load_cells 30 _ rfl w.heap.size (entV e) 30 _ rfl HCX.out Try.underlying30 rfl HSE.out ?_; go_big_quiet_on; simp only [Act.put, List.setIfInBounds_toArray, List.set_cons_zero, List.set_cons_succ])
        | (go_big_quiet_want; refine quiet_load_cell 3 _ rfl ⟨w.heap.size, 70, none⟩ _ rfl HCM.out Try.isAgg3 ?_; go_big_quiet_on; simp only [Act.put, List.setIfInBounds_toArray, List.set_cons_zero, List.set_cons_succ])
        | (go_big_quiet_want; refine quiet_load_cell 9 _ rfl ⟨w.heap.size, 71, none⟩ _ rfl HCY.out Try.isAgg9 ?_; go_big_quiet_on; simp only [Act.put, List.setIfInBounds_toArray, List.set_cons_zero, List.set_cons_succ])
        | (go_big_quiet_want; refine quiet_bin .eql 30 _ _ _ rfl (.agg (entV e)) (.agg (entV (outE e.mask e.pay))) _ rfl rfl (guard_ent .eql (.inl rfl) _ _ _ _) HEQ.out ?_; go_big_quiet_on; simp only [Act.put, List.setIfInBounds_toArray, List.set_cons_zero, List.set_cons_succ])
        | go_big_quiet_step ((intro hs'; first
            | (go_at_call 27; exact (HLC.out _).mono fun e w' h => ⟨h.1, hs'.trans (h.2.mono hs'.size)⟩)
            | (go_at_call 26; exact (HGD.out _).mono fun e w' h => ⟨h.1, hs'.trans (h.2.mono hs'.size)⟩)
            | rfl)))
      refine wpQuiet_nil ?_
      intro w2 hs2
      have HB2 := Lib.hid (HB.out.trans (hs2.mono HB.out.size))
      clear hs2
      go_wp2_with fail
      go_ret
      exact ⟨by rw [HZ.out]; rfl, HB2.out⟩
  have g3 : (k == 3) = false := by simp [h3]
  have HZ := Shut.mk (show decide (GoodE e) = false from decide_eq_false (goodE0 (by rw [HK.out]; exact h1) (by rw [HK.out]; exact h2) (by rw [HK.out]; exact h3)))
  clear h1 h2 h3
  go_wp2_with fail
  go_ret
  exact ⟨by rw [HZ.out]; rfl, HB.out⟩
end Go.Proofs.Ytenmkfjgjemiiaa
namespace Go.Proofs.Ytenmkfjgjemiiaa
structure DraftN.Fit (d : DraftN) : Prop where
  ref : IdOk d.ref
  low : -9223372036854775808 ≤ d.kind
  high : d.kind ≤ 9223372036854775807
  key : d.key.length ≤ 512
  val : d.val.length ≤ 512
theorem GoodD.fit {d : DraftN} (h : GoodD d) (hr : IdOk d.ref) : d.Fit := by
  obtain ⟨h1, h2, _, h4, h5, _⟩ := h
  exact ⟨hr, by omega, by omega, by omega, by omega⟩
end Go.Proofs.Ytenmkfjgjemiiaa
namespace Go.Proofs
open Go.Shelf Go.RowKit
def Try.lays125_ren : Go.Shelf.Ren := ⟨fun | 125 => 41 | 128 => 56 | 129 => 57 | n => n, fun | 46 => 72 | 3 => 3 | 51 => 96 | 53 => 98 | 4 => 4 | 5 => 5 | 9 => 9 | n => n, fun | n => n⟩
theorem Try.lays125 : Go.Proofs.Lays.n125 Try.prog Try.lays125_ren := {
  mixed := by kernel_rfl
  f125 := Try.func41.trans (congrArg some (by kernel_rfl))
  f128 := Try.func56.trans (congrArg some (by kernel_rfl))
  f129 := Try.func57.trans (congrArg some (by kernel_rfl))
  t3 := Try.underlying3
  a3 := Try.isAgg3
  z3 := Try.sizeOf3
  v3 := Try.zeroValue3
  t4 := Try.underlying4
  a4 := Try.isAgg4
  z4 := Try.sizeOf4
  v4 := Try.zeroValue4
  t5 := Try.underlying5
  a5 := Try.isAgg5
  z5 := Try.sizeOf5
  v5 := Try.zeroValue5
  t9 := Try.underlying9
  a9 := Try.isAgg9
  z9 := Try.sizeOf9
  v9 := Try.zeroValue9
  t46 := Try.underlying72
  a46 := Try.isAgg72
  z46 := Try.sizeOf72
  v46 := Try.zeroValue72
  t51 := Try.underlying96
  a51 := Try.isAgg96
  z51 := Try.sizeOf96
  v51 := Try.zeroValue96
  t53 := Try.underlying98
  a53 := Try.isAgg98
  z53 := Try.sizeOf98
  v53 := Try.zeroValue98 }
theorem Try.bits_Len (x : Int) (w : World) (h0 : 0 ≤ x) (h1 : x ≤ 18446744073709551615) :
    Calls Try.prog 41 #[.int .u64 x] w fun e w' => e = .returned (.int .i64 (Lib.bitLen x.toNat)) ∧ w' = w := Any.bits_Len Try.lays125 x w h0 h1
end Go.Proofs
namespace Go.Proofs.Ytenmkfjgjemiiaa
open Go.RowKit
theorem Try.infoByte : (Try.prog.info? 5).map (fun i => (i.zero, i.size, i.bytes)) = some (some (.int .u8 0), 1, 1) := by kernel_rfl
def numRow (n L k j : Nat) : Value := if j = 0 then .int .u8 L else if L - k < j then .int .u8 ((n : Int) / 2 ^ (8 * (L - j)) % 256) else .int .u8 0
theorem numRow_at {n L : Nat} (hL : (dig n).length = L) (h8 : L ≤ 8) (j : Nat) (hj : j < (numB n).length) : numRow n L L j = .int .u8 ((numB n)[j].toNat : Int) := by
  unfold numRow
  cases j with
  | zero =>
    rw [if_pos rfl]
    have : (numB n)[0].toNat = L := by simp only [numB, List.getElem_cons_zero, hL]; simp; omega
    rw [this]
  | succ j =>
    have hj2 : j < (dig n).length := by rw [numB_length] at hj; omega
    rw [if_neg (by omega), if_pos (by omega)]
    have e : (numB n)[j + 1].toNat = n / 256 ^ (L - (j + 1)) % 256 := by
      simp only [numB, List.getElem_cons_succ]
      rw [dig_get n j hj2, hL, show L - 1 - j = L - (j + 1) by omega]
    rw [e, show (256 : Nat) = 2 ^ 8 by decide, ← Nat.pow_mul]
    simp
theorem numRow_step {n L k : Nat} (hk : k < L) (i : Nat) :
    (fun j => if j = L - k then Value.int .u8 ((n : Int) / 2 ^ (8 * k) % 256) else numRow n L k j) i = numRow n L (k + 1) i := by
  unfold numRow
  by_cases e : i = L - k
  · subst e
    rw [if_neg (by omega), if_pos (by omega), show L - (L - k) = k by omega]
    simp
  · simp only [e, if_false]
    by_cases e0 : i = 0
    · simp [e0]
    · simp only [e0, if_false]
      by_cases e1 : L - k < i
      · rw [if_pos e1, if_pos (by omega)]
      · rw [if_neg e1, if_neg (by omega)]
set_option maxHeartbeats 1000000 in
theorem num_any (n : Nat) (w : World) (hn : n < 9223372036854775808) :
    Calls Try.prog 29 #[.int .i64 n] w fun e w' => e = .returned (.string ⟨(numB n).toArray⟩) ∧ Below w.heap.size w w' := by
  have b1 := bitLen_le hn
  have b2 : ((Lib.bitLen n : Int) + 7) / 8 = ((dig n).length : Int) := by have := bitLen_dig hn; omega
  have h8 := dig_length_8 hn
  have hD := Lib.hid (rfl : dig n = dig n)
  generalize hL : (dig n).length = L at b2 h8
  have HL := Lib.hid hL
  clear hL hD
  have hmk := run_make_row' (P := Try.prog) 53 5 (.int .u8 0) 1 Try.underlying53 Try.infoByte rfl .i64 .i64 (1 + L) (by omega) (by omega)
  simp only [Int.natCast_add, Int.natCast_one] at hmk
  have hrow := World.rowIs_made w (.int .u8 0) (1 + L) 5
  have hrow2 := hrow.set 0 (.int .u8 (L : Int))
  have c0 := hrow.cell (i := 0) (by omega)
  have f0 := hrow.frozen 0
  have HR := Lib.hid hrow2
  clear hrow hrow2
  go_enter Try.func29, Try.ntmps29
  go_wp2_with (go_at_call 41; refine (Try.bits_Len _ _ (by omega) (by omega)).mono ?_; rintro e w' ⟨rfl, rfl⟩)
  rw [b2]
  have B2 := Lib.hid b2
  clear b2 c0 f0 HR hmk
  go_loopw [21] (fun i wr => ∃ k : Nat, k ≤ L ∧ i = .int .i64 k ∧ wr.rowIs w'.heap.size 5 (1 + L) (numRow n L k) ∧ Below w'.heap.size w' wr) (fun i _ => L - (intOf i).toNat)
  case atStart =>
    refine ⟨0, Nat.zero_le _, rfl, ?_, (Below.refl _ _).alloc (Nat.le_refl _) _⟩
    have h := World.rowIs_alloc w' ((madeCells #[Value.int IntKind.u8 0] (1 + L)).setIfInBounds 0 (Value.int IntKind.u8 ↑L)) 5 (numRow n L 0) (by
      intro i hi
      simp only [Array.size_setIfInBounds, size_madeCells] at hi
      rw [Array.getElem?_setIfInBounds]
      unfold numRow
      by_cases e : i = 0
      · subst e; simp [size_madeCells]
      · rw [if_neg (by omega), if_neg e, if_neg (by omega)]
        simp [madeCells, hi, Nat.mod_one])
    simpa [size_madeCells] using h
  case round =>
    obtain ⟨k, hk, rfl, hrow, hbel⟩ := hrel
    by_cases hlt : k < L
    · have c0 := hrow.cell (i := L - k) (by omega)
      have f0 := hrow.frozen (L - k)
      have HR := Lib.hid hrow
      have HB := Lib.hid hbel
      clear hrow hbel
      go_wp2
      refine ⟨⟨k + 1, by omega, by go_num, ?_, HB.out.setCell (by simp) _⟩, by simp [intOf]; omega⟩
      exact (HR.out.set (L - k) _).congr (fun i _ => numRow_step hlt i)
    · have hkL : k = L := by omega
      subst hkL
      have hconv : (convert 53 9 (.slice (some ⟨w'.heap.size, 0, none⟩) (1 + k) (1 + k))).run Try.prog wr = .ok (.string ⟨(numB n).toArray⟩) wr := by
        have hlen : (numB n).length = 1 + k := by rw [numB_length, HL.out]
        rw [← hlen]
        refine run_convert_bytes_back wr _ _ 5 ⟨w'.heap.size, 0, none⟩ _ (numB n) Try.underlying53 Try.underlying5 Try.underlying9 ?_
        intro j hj
        have := hrow.cell (i := j) (by omega)
        rw [numRow_at HL.out h8 j hj] at this
        rw [show Addr.add ⟨w'.heap.size, 0, none⟩ j = ⟨w'.heap.size, j, none⟩ by simp only [Addr.add]; split <;> simp_all]
        exact this
      have HB := Lib.hid hbel
      clear hrow hbel
      go_wp2
      go_ret
      exact ⟨rfl, HB.out⟩
set_option maxHeartbeats 1000000 in
theorem num_neg (n : Int) (w : World) (hn : n < 0) (hlo : -9223372036854775808 ≤ n) :
    Calls Try.prog 29 #[.int .i64 n] w fun e w' => e = .returned (.string ⟨#[0]⟩) ∧ Below w.heap.size w w' := by
  have b0 : Lib.bitLen 0 = 0 := by decide
  have hmax : max n 0 = 0 := by omega
  have hmk : ∀ w : World, (Instr.makeSlice 53 (.int .i64 1) (.int .i64 1)).run Try.prog w = .ok (.slice (some ⟨w.heap.size, 0, none⟩) 1 1) (w.alloc (.cells #[.int .u8 0] 5)) := fun w => by kernel_rfl
  have hconv : (convert 53 9 (.slice (some ⟨w.heap.size, 0, none⟩) 1 1)).run Try.prog (w.alloc (.cells #[.int .u8 0] 5)) = .ok (.string ⟨#[0]⟩) (w.alloc (.cells #[.int .u8 0] 5)) := by
    refine run_convert_bytes_back _ _ _ 5 ⟨w.heap.size, 0, none⟩ _ [0] Try.underlying53 Try.underlying5 Try.underlying9 ?_
    intro j hj
    have : j = 0 := by simpa using hj
    subst this
    simp [Addr.add]
  go_enter Try.func29, Try.ntmps29
  go_wp2_with (go_at_call 41; refine (Try.bits_Len _ _ (by omega) (by omega)).mono ?_; rintro e w' ⟨rfl, rfl⟩)
  refine wp_loop_rounds 1 ?_
  rw [rounds_succ]
  go_wp2
  go_ret
  exact ⟨rfl, (Below.refl _ _).alloc (Nat.le_refl _) _⟩
theorem num_int (n : Int) (w : World) (hlo : -9223372036854775808 ≤ n) (hhi : n ≤ 9223372036854775807) :
    Calls Try.prog 29 #[.int .i64 n] w fun e w' => e = .returned (.string ⟨(numB n.toNat).toArray⟩) ∧ Below w.heap.size w w' := by
  by_cases h : n < 0
  · have e : numB n.toNat = [0] := by rw [show n.toNat = 0 by omega]; simp [numB, dig_zero]
    rw [e]
    exact num_neg n w h hlo
  · obtain ⟨m, rfl⟩ : ∃ m : Nat, n = m := ⟨n.toNat, by omega⟩
    exact num_any m w (by omega)
end Go.Proofs.Ytenmkfjgjemiiaa
namespace Go.Proofs
open Go.Shelf Go.RowKit
def Try.lays169_ren : Go.Shelf.Ren := ⟨fun | 169 => 43 | n => n, fun | 70 => 73 | 9 => 9 | 0 => 0 | 72 => 75 | 37 => 53 | 127 => 99 | 3 => 3 | 5 => 5 | n => n, fun | n => n⟩
theorem Try.lays169 : Go.Proofs.Lays.n169 Try.prog Try.lays169_ren := {
  mixed := by kernel_rfl
  f169 := Try.func43.trans (congrArg some (by kernel_rfl))
  t0 := Try.underlying0
  a0 := Try.isAgg0
  z0 := Try.sizeOf0
  v0 := Try.zeroValue0
  t3 := Try.underlying3
  a3 := Try.isAgg3
  z3 := Try.sizeOf3
  v3 := Try.zeroValue3
  t9 := Try.underlying9
  a9 := Try.isAgg9
  z9 := Try.sizeOf9
  v9 := Try.zeroValue9
  t37 := Try.underlying53
  a37 := Try.isAgg53
  z37 := Try.sizeOf53
  v37 := Try.zeroValue53
  t70 := Try.underlying73
  a70 := Try.isAgg73
  z70 := Try.sizeOf73
  v70 := Try.zeroValue73
  t72 := Try.underlying75
  a72 := Try.isAgg75
  z72 := Try.sizeOf75
  v72 := Try.zeroValue75
  t127 := Try.underlying99
  a127 := Try.isAgg99
  z127 := Try.sizeOf99
  v127 := Try.zeroValue99 }
theorem Try.Builder_Extra_169 : Builder.Extra Try.prog Try.lays169_ren := {
  sizeBuilder := by kernel_rfl
  liesBuilder := by kernel_rfl
  t5 := Try.underlying5
  a5 := Try.isAgg5
  z5 := Try.sizeOf5
  v5 := Try.zeroValue5
  infoByte := by kernel_rfl
  cellsByte := by kernel_rfl
  sizeByte := by kernel_rfl
  neB5 := by decide }
theorem Try.Builder_String_any (B b : Nat) (l : List UInt8) (w : World) (h : Lib.IsBuilder 75 5 B b (Lib.byteCells l) w) (hBw : B ≤ w.heap.size) :
    Calls Try.prog 43 #[.pointer (some ⟨b, 0, none⟩)] w fun e w' => e = .returned (.string ⟨l.toArray⟩) ∧ Below B w w' := Any.Builder_String_any Try.lays169 Try.Builder_Extra_169 B b l w h hBw
end Go.Proofs
namespace Go.Proofs.Ytenmkfjgjemiiaa
open Go.RowKit
theorem builder_below {T e : TypeId} {B b : Nat} {bs : List Value} {w w' : World} (h : Lib.IsBuilder T e B b bs w) (k : Below w.heap.size w w') : Lib.IsBuilder T e B b bs w' := by
  have one : ∀ p, Lib.BuilderAt T e B b p bs w → Lib.BuilderAt T e B b p bs w' := by
    intro p hp
    have hlt := hp.lt
    obtain ⟨hB, v, hb, hown, hne⟩ := hp
    refine ⟨hB, v, (k.block b hlt).trans hb, ?_, hne⟩
    exact hown.kept (row := none) ⟨k.os, k.tape, k.output, k.size, fun i hi _ => k.block i hi⟩ (by
      rcases h : v.ownBlock with _ | g
      · exact Or.inl rfl
      · exact Or.inr (by simp))
  rcases h with h | h
  · exact Or.inl (one _ h)
  · exact Or.inr (one _ h)
set_option maxHeartbeats 1000000 in
set_option maxRecDepth 100000 in
theorem copyCheck_used (b : Nat) (w : World) (h0 : w.cell? ⟨b, 0, none⟩ = some (.pointer (some ⟨b, 0, none⟩))) :
    Calls Try.prog 58 #[.pointer (some ⟨b, 0, none⟩)] w fun e w' => e = .returned (.tuple #[]) ∧ w' = w := by
  obtain ⟨j, hj, _⟩ := Option.map_eq_some_iff.1 Try.Builder_Extra_169.sizeBuilder
  go_enter Try.func58, Try.ntmps58
  go_wp2
  rw [Lib.run_neq_ptr_same w _ Try.underlying73 hj]
  go_wp2
  go_end0
  exact ⟨rfl, rfl⟩
set_option maxHeartbeats 1000000 in
set_option maxRecDepth 100000 in
theorem copyCheck_fresh (b : Nat) (w : World) (h0 : w.cell? ⟨b, 0, none⟩ = some (.pointer none)) (hsh : w.shape? b = some (75, 2)) (hfz : w.frozen? ⟨b, 0, none⟩ = false) :
    Calls Try.prog 58 #[.pointer (some ⟨b, 0, none⟩)] w fun e w' => e = .returned (.tuple #[]) ∧ w' = w.setCell ⟨b, 0, none⟩ (.pointer (some ⟨b, 0, none⟩)) := by
  obtain ⟨j, hj, hjs⟩ := Option.map_eq_some_iff.1 Try.Builder_Extra_169.sizeBuilder
  go_enter Try.func58, Try.ntmps58
  go_wp2
  rw [Lib.run_to_unsafe w ⟨b, 0, none⟩ Try.underlying73 Try.underlying105 hj (by rw [hjs]; decide) hsh (Nat.zero_lt_succ 1)]
  simp only [Result.andThen]
  rw [Oper.upon_value]
  go_wp2
  rw [run_callFunc_extern Try.func63 (by kernel_rfl) (by kernel_rfl) (by kernel_rfl) (e := Extern.AbiNoEscape.same) (by kernel_rfl)]
  rw [Lib.run_noEscape]
  simp only [Result.andThen]
  rw [Oper.upon_value]
  go_wp2
  rw [Lib.run_from_unsafe w ⟨b, 0, none⟩ Try.underlying105 Try.underlying73 hj hsh Try.Builder_Extra_169.liesBuilder]
  simp only [Result.andThen]
  rw [Oper.upon_value]
  go_wp2
  go_end0
  exact ⟨rfl, rfl⟩
theorem copyCheck_any (B b : Nat) (bs : List Value) (w : World) (h : Lib.IsBuilder 75 5 B b bs w) :
    Calls Try.prog 58 #[.pointer (some ⟨b, 0, none⟩)] w fun e w' => e = .returned (.tuple #[]) ∧ (Lib.BuilderAt 75 5 B b (.pointer (some ⟨b, 0, none⟩)) bs w' ∧ Below B w w') := by
  rcases h with h | h
  · refine (copyCheck_fresh b w h.cell0 h.shape h.frozen0).mono ?_
    rintro e w' ⟨rfl, rfl⟩
    exact ⟨rfl, h.used _, (Below.refl B w).setCell (p := ⟨b, 0, none⟩) h.1 _⟩
  · refine (copyCheck_used b w h.cell0).mono ?_
    rintro e w' ⟨rfl, rfl⟩
    exact ⟨rfl, h, Below.refl B _⟩
set_option maxHeartbeats 2000000 in
set_option maxRecDepth 100000 in
theorem writeString_any (B b : Nat) (bs : List Value) (s : ByteArray) (w : World) (h : Lib.IsBuilder 75 5 B b bs w) (hlen : bs.length + s.size ≤ 140737488355328) (hBw : B ≤ w.heap.size) :
    Calls Try.prog 42 #[.pointer (some ⟨b, 0, none⟩), .string s] w fun e w' => e = .returned (.tuple #[.int .i64 s.size, .nilIface]) ∧ (Lib.IsBuilder 75 5 B b (bs ++ Lib.strCells s) w' ∧ Below B w w') := by
  obtain ⟨i0, hi, hz0, hz1, hz2⟩ := info_parts Try.Builder_Extra_169.infoByte
  have hi : Try.prog.info? 5 = some i0 := hi
  go_enter Try.func42, Try.ntmps42
  go_wp2_with (go_at_call 58; refine (copyCheck_any B b bs _ h).mono ?_)
  rintro e w1 ⟨rfl, h1, hb1⟩
  obtain ⟨hB, v, hbk, hown, hne⟩ := h1
  have c0 : w1.cell? ⟨b, 0, none⟩ = some (.pointer (some ⟨b, 0, none⟩)) := by rw [Lib.cell_of_heap hbk]; rfl
  have c1 : w1.cell? ⟨b, 1, none⟩ = some v := by rw [Lib.cell_of_heap hbk]; rfl
  go_wp2_with (at_builtin; refine Lib.wpList_append_own_string _ rfl _ _ 53 9 rfl B 5 i0 Try.underlying53 Try.underlying9 hi hz0 hz1 hz2 _ _ _ rfl hown s rfl ?c3 ?c4 ?c5 ?_)
  case c3 => unfold maxLen; omega
  case c4 => omega
  case c5 => have := hb1.size; omega
  intro v' w2 hown' hgrow _
  have hlt : b < w1.heap.size := lt_of_block hbk
  have hb2 : w2.heap[b]? = some (.cells #[.pointer (some ⟨b, 0, none⟩), v] 75 (0, 0)) := by
    rw [hgrow.block b hlt (fun e => hne e.symm)]
    exact hbk
  have d0 : w2.cell? ⟨b, 0, none⟩ = some (.pointer (some ⟨b, 0, none⟩)) := by rw [Lib.cell_of_heap hb2]; rfl
  have d1 : w2.cell? ⟨b, 1, none⟩ = some v := by rw [Lib.cell_of_heap hb2]; rfl
  have f1 : w2.frozen? ⟨b, 1, none⟩ = false := Lib.frozen_of_heap hb2 1
  obtain ⟨ao, n', cap, rfl⟩ : ∃ ao n' cap, v' = .slice ao n' cap := by
    rcases hown'.2 with ⟨hv, _⟩ | ⟨g, cap, cur, hv, _⟩
    · exact ⟨_, _, _, hv⟩
    · exact ⟨_, _, _, hv⟩
  go_wp2
  go_ret2
  refine ⟨rfl, Or.inr ?_, ?_⟩
  · exact Lib.BuilderAt.put (T := 75) (e := 5) hB hb2 (bs' := bs ++ Lib.strCells s) (by simpa [Lib.strCells_length] using hown') (by decide)
  · exact (hb1.grown hgrow (by have := hb1.size; omega) (fun k hk => (hown.lt k hk).1)).setCell (p := ⟨b, 1, none⟩) hB _
end Go.Proofs.Ytenmkfjgjemiiaa
namespace Go.Proofs.Ytenmkfjgjemiiaa
open Go.RowKit
theorem byteCells_text (l : List UInt8) : Lib.strCells ⟨l.toArray⟩ = Lib.byteCells l := by simp [Lib.strCells, Lib.byteCells]
set_option maxHeartbeats 1000000 in
theorem list_any (ao : Option Addr) (cap : Nat) (l : List (List UInt8)) (w : World) (h : StrsAt ao l w) (hl : l.length ≤ 9223372036854775807) (hlen : (listB l).length ≤ 140737488355328) :
    Calls Try.prog 30 #[.slice ao l.length cap] w fun e w' => e = .returned (.string ⟨(listB l).toArray⟩) ∧ Below w.heap.size w w' := by
  have hfresh := Lib.fresh_isBuilder 75 5 w
  have HF := Lib.hid hfresh
  have HS := Lib.hid h
  clear hfresh h
  go_enter Try.func30, Try.ntmps30
  go_wp2_with fail
  refine (num_any l.length _ (by omega)).mono ?_
  rintro e w1 ⟨rfl, hb1⟩
  have hA := (Below.refl w.heap.size w).alloc (Nat.le_refl _) (.cells #[Value.pointer none, Value.slice none 0 0] 75)
  have HI1 := Lib.hid (builder_below HF.out hb1)
  have HB1 := Lib.hid (hA.trans (hb1.mono (by simp)))
  have hsz1 := hb1.size
  simp at hsz1
  have hlb := listB_length l
  have HL := Lib.hid hlb
  clear hb1 HF hA
  go_wp2_with fail
  have hnum := HL.out
  refine (writeString_any w.heap.size w.heap.size [] _ _ HI1.out (by show _ + (List.toArray _).size ≤ _; simp; omega) (by omega)).mono ?_
  rintro e w2 ⟨rfl, hI2, hb2⟩
  rw [byteCells_text, List.nil_append] at hI2
  have HI2 := Lib.hid hI2
  have HB2 := Lib.hid (HB1.out.trans hb2)
  clear hI2 hb2 HI1 HB1 hsz1 hnum
  go_wp2_with fail
  go_loopw [12] (fun i wr => ∃ q : Nat, q ≤ l.length ∧ i = .int .i64 q ∧ Lib.IsBuilder 75 5 w.heap.size w.heap.size (Lib.byteCells (numB l.length ++ textsB (l.take q))) wr ∧ Below w.heap.size w wr) (fun i _ => l.length - (intOf i).toNat)
  case atStart => exact ⟨0, Nat.zero_le _, rfl, by simpa [textsB] using HI2.out, HB2.out⟩
  case round =>
    obtain ⟨q, hq, rfl, hI, hbel⟩ := hrel
    by_cases hlt : q < l.length
    · have hparts := textsB_parts l q hlt
      have htl := textB_length l[q]
      have hpos := numB_pos l[q].length
      have hlist := HL.out
      have HP := Lib.hid hparts
      have HT := Lib.hid htl
      have hcell : ∃ b o, ao = some ⟨b, o, none⟩ ∧ wr.cell? ⟨b, o + q, none⟩ = some (.string ⟨l[q].toArray⟩) := by
        rcases HS.out.below hbel with h | ⟨b, o, ha, hb, hc⟩
        · subst h; simp at hlt
        · exact ⟨b, o, ha, hc q hlt⟩
      obtain ⟨cb, co, hao, hc⟩ := hcell
      have hlq : l[q].length ≤ 140737488355328 := by omega
      have hsum : (numB l.length).length + (textsB (l.take q)).length + (numB l[q].length).length + l[q].length ≤ 140737488355328 := by omega
      have HI := Lib.hid hI
      have HB := Lib.hid hbel
      subst hao
      clear hI hbel hparts htl hlist
      go_wp2_with fail
      refine (num_any l[q].length _ (by omega)).mono ?_
      rintro e w3 ⟨rfl, hb3⟩
      have HI3 := Lib.hid (builder_below HI.out hb3)
      have hsz3 := HB.out.size
      have HB3 := Lib.hid (HB.out.trans (hb3.mono hsz3))
      clear hb3 HI HB hc
      go_wp2_with fail
      refine (writeString_any w.heap.size w.heap.size _ _ _ HI3.out (by show _ + (List.toArray _).size ≤ _; rw [Lib.byteCells_length]; simp; omega) HB3.out.size).mono ?_
      rintro e w4 ⟨rfl, hI4, hb4⟩
      rw [byteCells_text, ← Lib.byteCells_append] at hI4
      have HI4 := Lib.hid hI4
      have HB4 := Lib.hid (HB3.out.trans hb4)
      clear hb4 hI4 HI3 HB3 hsz3
      go_wp2_with fail
      refine (writeString_any w.heap.size w.heap.size _ _ _ HI4.out (by show _ + (List.toArray _).size ≤ _; rw [Lib.byteCells_length]; simp; omega) HB4.out.size).mono ?_
      rintro e w5 ⟨rfl, hI5, hb5⟩
      rw [byteCells_text, ← Lib.byteCells_append] at hI5
      have HI5 := Lib.hid (show Lib.IsBuilder 75 5 w.heap.size w.heap.size (Lib.byteCells (numB l.length ++ textsB (l.take (q + 1)))) w5 by rw [textsB_take_succ l q hlt]; simpa [List.append_assoc] using hI5)
      have HB5 := Lib.hid (HB4.out.trans hb5)
      clear hb5 hI5 HI4 HB4
      go_wp2_with fail
      refine ⟨⟨q + 1, by omega, by go_num, HI5.out, HB5.out⟩, by simp [intOf]; omega⟩
    · obtain rfl : q = l.length := by omega
      rw [List.take_length] at hI
      have HI := Lib.hid hI
      have HB := Lib.hid hbel
      clear hI hbel
      go_wp2_with fail
      refine (Try.Builder_String_any w.heap.size w.heap.size _ _ HI.out HB.out.size).mono ?_
      rintro e w3 ⟨rfl, hb3⟩
      have HB3 := Lib.hid (HB.out.trans hb3)
      clear hb3 HI HB
      go_wp2_with fail
      go_ret
      exact ⟨rfl, HB3.out⟩
end Go.Proofs.Ytenmkfjgjemiiaa
namespace Go.Proofs.Ytenmkfjgjemiiaa
open Go.RowKit Go.BigFrame
theorem at_four9 (w : World) (p q r s : List UInt8) : StrsAt (some ⟨w.heap.size, 0, none⟩) [p, q, r, s] (w.alloc (.cells #[.string ⟨p.toArray⟩, .string ⟨q.toArray⟩, .string ⟨r.toArray⟩, .string ⟨s.toArray⟩] 9)) := by
  refine strsAt_own (B := w.heap.size) (c := 4) ?_
  exact World.ownsRow_lit (base := w.heap.size) (e := 9) (size := 1) w #[.string ⟨p.toArray⟩, .string ⟨q.toArray⟩, .string ⟨r.toArray⟩, .string ⟨s.toArray⟩] 4 (Nat.le_refl _) (by unfold maxLen; omega) rfl
theorem conv_mid {P : Program} {src dst e : TypeId} (hs : P.underlying src = some (.slice e)) (he : P.underlying e = some (.int .u8)) (hd : P.underlying dst = some .string) {g o c n : Nat} {l : List Nat} {w : World} (hn : n = l.length) (hl : ∀ x ∈ l, x < 256) (h : w.rangeAt g o (nums .u8 l)) :
    (convert src dst (.slice (some ⟨g, o, none⟩) n c)).run P w = .ok (.string ⟨(txt l).toArray⟩) w := by
  subst hn
  have h2 := run_convert_bytes_back (P := P) w src dst e ⟨g, o, none⟩ c (txt l) hs he hd (fun j hj => by
    rw [txt_len] at hj
    rw [Addr.add_mid, h j _ (by rw [nums, List.getElem?_map, List.getElem?_eq_getElem hj]; rfl)]
    have h1 := hl _ (List.getElem_mem hj)
    simp only [txt, List.getElem_map]
    rw [show (UInt8.ofNat l[j]).toNat = l[j] by simp; omega])
  rw [txt_len] at h2
  exact h2
theorem draftB_le9 {d : DraftN} (h : d.Fit) : (draftB d).length ≤ 1200 := draftB_le (by have := h.high; omega) h.key h.val h.ref.1
set_option maxHeartbeats 4000000 in
set_option maxRecDepth 100000 in
theorem dev_draftText (d : DraftN) (hd : d.Fit) (w : World) :
    Calls Try.prog 31 #[.agg (draftV d)] w fun e w' => e = .returned (.string ⟨(draftB d).toArray⟩) ∧ Below w.heap.size w w' := by
  have hx : Cells w.heap.size 28 (draftV d) (w.alloc (.cells (draftV d) 28)) := heap_alloc_new w _
  have hb : Below w.heap.size w (w.alloc (.cells (draftV d) 28)) := (Below.refl _ _).alloc (Nat.le_refl _) _
  have HX := Lib.hid hx
  have HB := Lib.hid hb
  have HD := Lib.hid hd
  have HLEN := Lib.hid (draftB_le9 hd)
  clear hx hb hd
  go_enter Try.func31, Try.ntmps31
  go_upto_region 1 with (fail)
  obtain ⟨w1, hw1⟩ : ∃ x, x = w.alloc (.cells (draftV d) 28) := ⟨_, rfl⟩
  rw [← hw1] at HX HB ⊢
  clear hw1
  obtain ⟨c0, c1, c2, c3⟩ := draft_cells HX.out
  have hg := HX.out.lt
  obtain ⟨k, hk⟩ : ∃ k, d.kind = k := ⟨_, rfl⟩
  have HK := Shut.mk hk
  rw [hk] at c0
  have HC0 := Lib.hid (fun (w' : World) (q : Below w1.heap.size w1 w') => (q.cell (p := ⟨w.heap.size, 0, none⟩) hg).trans c0)
  have HC1 := Lib.hid (fun (w' : World) (q : Below w1.heap.size w1 w') => (q.cell (p := ⟨w.heap.size, 1, none⟩) hg).trans c1)
  have HC2 := Lib.hid (fun (w' : World) (q : Below w1.heap.size w1 w') => (q.cell (p := ⟨w.heap.size, 2, none⟩) hg).trans c2)
  have HC3 := Lib.hid (fun (w' : World) (q : Below w1.heap.size w1 w') => conv_mid (P := Try.prog) (src := 53) (dst := 9) (c := 32) Try.underlying53 Try.underlying5 Try.underlying9 HD.out.ref.1.symm HD.out.ref.2 (rangeAt_belowI c3 q hg))
  have HN := Lib.hid (fun w' => num_int k w' (by have := HD.out.low; rw [hk] at this; exact this) (by have := HD.out.high; rw [hk] at this; exact this))
  clear c0 c1 c2 c3 hg hk
  refine wp_region_class_tail (fun w' => Below w1.heap.size w1 w') 10 (by kernel_rfl) (by kernel_rfl) (Below.refl _ _).drew ?_
  simp only [List.take_succ_cons, List.take_zero, List.drop_succ_cons, List.drop_zero]
  repeat (first
    | (go_big_quiet_want; refine quiet_load_cell 3 _ rfl ⟨w.heap.size, 0, none⟩ _ rfl HC0.out Try.isAgg3 ?_; go_big_quiet_on; simp only [Act.put, List.setIfInBounds_toArray, List.set_cons_zero, List.set_cons_succ])
    | (go_big_quiet_want; refine quiet_load_cell 9 _ rfl ⟨w.heap.size, 1, none⟩ _ rfl HC1.out Try.isAgg9 ?_; go_big_quiet_on; simp only [Act.put, List.setIfInBounds_toArray, List.set_cons_zero, List.set_cons_succ])
    | (go_big_quiet_want; refine quiet_load_cell 9 _ rfl ⟨w.heap.size, 2, none⟩ _ rfl HC2.out Try.isAgg9 ?_; go_big_quiet_on; simp only [Act.put, List.setIfInBounds_toArray, List.set_cons_zero, List.set_cons_succ])
    | (go_big_quiet_want; refine quiet_conv 53 9 _ rfl (.slice (some ⟨w.heap.size, 3, none⟩) 32 32) _ rfl HC3.out ?_; go_big_quiet_on; simp only [Act.put, List.setIfInBounds_toArray, List.set_cons_zero, List.set_cons_succ])
    | go_big_quiet_step ((intro hs'; first
        | (go_at_call 29; exact (HN.out _).mono fun e w' h => ⟨h.1, hs'.trans (h.2.mono hs'.size)⟩)
        | rfl)))
  refine wpQuiet_nil ?_
  intro w2 hs2
  have HB2 := Lib.hid (HB.out.trans (hs2.mono HB.out.size))
  clear hs2 HX HB HC0 HC1 HC2 HC3 HN
  go_wp2_with fail
  refine (list_any (some ⟨w2.heap.size, 0, none⟩) 4 [numB k.toNat, d.key, d.val, txt d.ref] _ (at_four9 w2 _ _ _ _) (by simp) (by have := HLEN.out; rw [draftB, HK.out] at this; omega)).mono ?_
  rintro e w3 ⟨rfl, hb⟩
  have HB3 := Lib.hid (HB2.out.trans (((Below.refl _ w2).alloc (Nat.le_refl _) _).trans (hb.mono (by simp)) |>.mono HB2.out.size))
  clear hb HB2
  go_wp2_with fail
  go_ret
  exact ⟨by rw [draftB, HK.out]; rfl, HB3.out⟩
end Go.Proofs.Ytenmkfjgjemiiaa
namespace Go.Proofs.Ytenmkfjgjemiiaa
open Go.RowKit Go.BigFrame
theorem at_row15 (w : World) (l : List (List UInt8)) (h : l.length ≤ 1000) : StrsAt (some ⟨w.heap.size, 0, none⟩) l (w.alloc (.cells (strs l).toArray 9)) := by
  refine strsAt_own (B := w.heap.size) (c := l.length) ?_
  exact World.ownsRow_lit (base := w.heap.size) (e := 9) (size := 1) w (strs l).toArray l.length (Nat.le_refl _) (by unfold maxLen; omega) (by rw [List.size_toArray, strs_length, Nat.mul_one])
set_option maxHeartbeats 4000000 in
set_option maxRecDepth 100000 in
theorem dev_text15 (e : EntN) (he : e.Len) (hq : e.seq < 9223372036854775808) (w : World) :
    Calls Try.prog 12 #[.agg (entV e)] w fun r w' => r = .returned (.string ⟨(entB e).toArray⟩) ∧ Below w.heap.size w w' := by
  have hx : Cells w.heap.size 30 (entV e) (w.alloc (.cells (entV e) 30)) := heap_alloc_new w _
  have hb : Below w.heap.size w (w.alloc (.cells (entV e) 30)) := (Below.refl _ _).alloc (Nat.le_refl _) _
  have HX := Lib.hid hx
  have HB := Lib.hid hb
  have HE := Lib.hid he
  have HGD := Lib.hid (fun w' => dev_good15 e he w')
  have HSE := Lib.hid (sizeEV he.ok)
  have HLE := Lib.hid (fun h : GoodE e => partsE_le h ⟨he.ok, hq⟩)
  have HQ := Lib.hid hq
  have HSD := Lib.hid (show (Try.prog.info? 28).map (·.size) = some (draftL e.d).length by rw [draftL_len he.ok.ref.1]; exact Try.sizeD)
  clear hx hb he hq
  obtain ⟨g, hg⟩ : ∃ b, decide (GoodE e) = b := ⟨_, rfl⟩
  have HG := Shut.mk hg
  rw [hg] at HGD
  clear hg
  go_enter Try.func12, Try.ntmps12
  go_upto_region 1 with (fail)
  obtain ⟨w1, hw1⟩ : ∃ x, x = w.alloc (.cells (entV e) 30) := ⟨_, rfl⟩
  rw [← hw1] at HX HB ⊢
  clear hw1
  go_wp2_with (refine wpList_load_cells rfl 30 _ rfl w.heap.size (entV e) 30 _ rfl HX.out Try.underlying30 rfl HSE.out ?_)
  refine (HGD.out w1).mono ?_
  rintro r w2 ⟨rfl, hb⟩
  have HX2 := Lib.hid (HX.out.below hb)
  have HB2 := Lib.hid (HB.out.trans (hb.mono HB.out.size))
  clear hb HGD HX HB
  cases g with
  | false =>
    have HZ := Shut.mk (entB_bad (of_decide_eq_false HG.out))
    go_wp2_with fail
    go_ret
    exact ⟨by rw [HZ.out]; rfl, HB2.out⟩
  | true =>
  have hgood := of_decide_eq_true HG.out
  have HZ := Shut.mk (entB_good hgood)
  have HGO := Lib.hid hgood
  have HLN := Lib.hid (HLE.out hgood)
  clear HLE HG
  obtain ⟨k, hk⟩ : ∃ k, e.kind = k := ⟨_, rfl⟩
  have HK := Shut.mk hk
  have HK3 := Lib.hid (show k = 1 ∨ k = 2 ∨ k = 3 by
    rw [← hk]
    rcases hgood with h | h | h
    · exact .inl h.1
    · exact .inr (.inl h.1)
    · exact .inr (.inr h.1))
  have c0 := (ent_cells HE.out.ok HX2.out).1
  rw [hk] at c0
  clear hk hgood
  go_wp2_with fail
  refine (num_int k w2 (by have := HK3.out; omega) (by have := HK3.out; omega)).mono ?_
  rintro r w3 ⟨rfl, hb⟩
  have HX3 := Lib.hid (HX2.out.below hb)
  have HB3 := Lib.hid (HB2.out.trans (hb.mono HB2.out.size))
  clear hb c0 HX2 HB2
  obtain ⟨c0, cd, cf, cq, cp, cm, cy, cs⟩ := ent_cells HE.out.ok HX3.out
  have HL3 := Lib.hid HX3.out.lt
  rw [HK.out] at c0
  obtain ⟨N1, hN1⟩ : ∃ x, numB k.toNat = x := ⟨_, rfl⟩
  have HN1 := Shut.mk hN1
  rw [hN1]
  clear hN1
  rcases HK3.out with h1 | h2 | h3
  · have g1 : (k == 1) = true := by simp [h1]
    have hgood := HGO.out
    have hk1 : e.kind = 1 := HK.out.trans h1
    have hd : GoodD e.d := ((goodE1 hk1).1 hgood).2
    have HP := Shut.mk (show partsE e = [N1, draftB e.d] by rw [partsE, if_pos hk1, ← HN1.out, h1]; rfl)
    have HDT := Lib.hid (fun w' => dev_draftText e.d (hd.fit HE.out.ok.ref) w')
    have HCD := Lib.hid cd
    rw [HP.out] at HZ HLN
    obtain ⟨DB, hDB⟩ : ∃ x, draftB e.d = x := ⟨_, rfl⟩
    rw [hDB] at HDT HZ HLN
    clear hk1 hd hDB HP hgood h1 cd cf cq cp cm cy cs
    go_wp2_with (refine wpList_load_mid rfl 28 _ rfl w.heap.size 1 rfl _ _ HCD.out Try.underlying28 rfl HSD.out ?_)
    refine (HDT.out w3).mono ?_
    rintro r w4 ⟨rfl, hb⟩
    have HB4 := Lib.hid (HB3.out.trans (hb.mono HB3.out.size))
    have HS := Lib.hid (at_row15 w4 [N1, DB] (by simp))
    clear hb c0 HCD HB3 HDT
    go_wp2_with fail
    refine (list_any (some ⟨w4.heap.size, 0, none⟩) 2 [N1, DB] _ HS.out (by simp) (by have := HLN.out; omega)).mono ?_
    rintro r w5 ⟨rfl, hb⟩
    have HB5 := Lib.hid (HB4.out.trans (((Below.refl _ w4).alloc (Nat.le_refl _) _).trans (hb.mono (by simp)) |>.mono HB4.out.size))
    clear hb HB4
    go_wp2_with fail
    go_ret
    exact ⟨by rw [HZ.out]; rfl, HB5.out⟩
  · have g1 : (k == 1) = false := by simp [h2]
    have g2 : (k == 2) = true := by simp [h2]
    have hgood := HGO.out
    have hk1 : e.kind = 2 := HK.out.trans h2
    obtain ⟨hd, ⟨h4, h5, h6⟩, ⟨h7, h8, h9⟩, h10⟩ := (goodE2 hk1).1 hgood
    obtain ⟨a, ha⟩ : ∃ x, e.src = x := ⟨_, rfl⟩
    obtain ⟨b, hbb⟩ : ∃ x, e.seq = x := ⟨_, rfl⟩
    obtain ⟨m, hm⟩ : ∃ x, e.mask = x := ⟨_, rfl⟩
    have HP := Shut.mk (show partsE e = [N1, numB a.toNat, numB b.toNat, txt e.prev, numB m.toNat, e.pay, e.sig] by
      rw [partsE, if_neg (by omega), if_pos hk1, ← HN1.out, ha, hbb, hm, h2]
      rfl)
    rw [HP.out] at HZ HLN
    rw [ha] at cf
    rw [hbb] at cq
    rw [hm] at cm
    have HC2 := Lib.hid (fun (w' : World) (q : Below w3.heap.size w3 w') => (q.cell (p := ⟨w.heap.size, 36, none⟩) HL3.out).trans cf)
    have HC3 := Lib.hid (fun (w' : World) (q : Below w3.heap.size w3 w') => (q.cell (p := ⟨w.heap.size, 37, none⟩) HL3.out).trans cq)
    have HC4 := Lib.hid (fun (w' : World) (q : Below w3.heap.size w3 w') => conv_mid (P := Try.prog) (src := 53) (dst := 9) (c := 32) Try.underlying53 Try.underlying5 Try.underlying9 HE.out.ok.prev.1.symm HE.out.ok.prev.2 (rangeAt_belowI cp q HL3.out))
    have HC5 := Lib.hid (fun (w' : World) (q : Below w3.heap.size w3 w') => (q.cell (p := ⟨w.heap.size, 70, none⟩) HL3.out).trans cm)
    have HC6 := Lib.hid (fun (w' : World) (q : Below w3.heap.size w3 w') => (q.cell (p := ⟨w.heap.size, 71, none⟩) HL3.out).trans cy)
    have HC7 := Lib.hid (fun (w' : World) (q : Below w3.heap.size w3 w') => (q.cell (p := ⟨w.heap.size, 72, none⟩) HL3.out).trans cs)
    have HNA := Lib.hid (fun w' => num_int a w' (by omega) (by omega))
    have HNB := Lib.hid (fun w' => num_int b w' (by omega) (by have := HQ.out; omega))
    have HNM := Lib.hid (fun w' => num_int m w' (by omega) (by omega))
    obtain ⟨PV, hPV⟩ : ∃ x, txt e.prev = x := ⟨_, rfl⟩
    rw [hPV] at HC4 HZ HLN
    clear hk1 HP hgood cd cf cq cp cm cy cs ha hbb hm hPV hd h4 h5 h6 h7 h8 h9 h10 h2
    go_upto_region 8 with (fail)
    refine wp_region_class_tail (fun w' => Below w3.heap.size w3 w') 17 (by kernel_rfl) (by kernel_rfl) (Below.refl _ _).drew ?_
    simp only [List.take_succ_cons, List.take_zero, List.drop_succ_cons, List.drop_zero]
    repeat (first
      | (go_big_quiet_want; refine quiet_load_cell 3 _ rfl ⟨w.heap.size, 36, none⟩ _ rfl HC2.out Try.isAgg3 ?_; go_big_quiet_on; simp only [Act.put, List.setIfInBounds_toArray, List.set_cons_zero, List.set_cons_succ])
      | (go_big_quiet_want; refine quiet_load_cell 3 _ rfl ⟨w.heap.size, 37, none⟩ _ rfl HC3.out Try.isAgg3 ?_; go_big_quiet_on; simp only [Act.put, List.setIfInBounds_toArray, List.set_cons_zero, List.set_cons_succ])
      | (go_big_quiet_want; refine quiet_load_cell 3 _ rfl ⟨w.heap.size, 70, none⟩ _ rfl HC5.out Try.isAgg3 ?_; go_big_quiet_on; simp only [Act.put, List.setIfInBounds_toArray, List.set_cons_zero, List.set_cons_succ])
      | (go_big_quiet_want; refine quiet_load_cell 9 _ rfl ⟨w.heap.size, 71, none⟩ _ rfl HC6.out Try.isAgg9 ?_; go_big_quiet_on; simp only [Act.put, List.setIfInBounds_toArray, List.set_cons_zero, List.set_cons_succ])
      | (go_big_quiet_want; refine quiet_load_cell 9 _ rfl ⟨w.heap.size, 72, none⟩ _ rfl HC7.out Try.isAgg9 ?_; go_big_quiet_on; simp only [Act.put, List.setIfInBounds_toArray, List.set_cons_zero, List.set_cons_succ])
      | (go_big_quiet_want; refine quiet_conv 53 9 _ rfl (.slice (some ⟨w.heap.size, 38, none⟩) 32 32) _ rfl HC4.out ?_; go_big_quiet_on; simp only [Act.put, List.setIfInBounds_toArray, List.set_cons_zero, List.set_cons_succ])
      | go_big_quiet_step ((intro hs'; first
          | (go_at_call_of 29 (Value.int .i64 a); exact (HNA.out _).mono fun e w' h => ⟨h.1, hs'.trans (h.2.mono hs'.size)⟩)
          | (go_at_call_of 29 (Value.int .i64 b); exact (HNB.out _).mono fun e w' h => ⟨h.1, hs'.trans (h.2.mono hs'.size)⟩)
          | (go_at_call_of 29 (Value.int .i64 m); exact (HNM.out _).mono fun e w' h => ⟨h.1, hs'.trans (h.2.mono hs'.size)⟩)
          | rfl)))
    refine wpQuiet_nil ?_
    intro w4 hs4
    have HB4 := Lib.hid (HB3.out.trans (hs4.mono HB3.out.size))
    clear hs4 HC2 HC3 HC4 HC5 HC6 HC7 HNA HNB HNM HB3
    have HS := Lib.hid (at_row15 w4 [N1, numB a.toNat, numB b.toNat, PV, numB m.toNat, e.pay, e.sig] (by simp))
    go_wp2_with fail
    refine (list_any (some ⟨w4.heap.size, 0, none⟩) 7 [N1, numB a.toNat, numB b.toNat, PV, numB m.toNat, e.pay, e.sig] _ HS.out (by simp) (by have := HLN.out; omega)).mono ?_
    rintro r w5 ⟨rfl, hb⟩
    have HB5 := Lib.hid (HB4.out.trans (((Below.refl _ w4).alloc (Nat.le_refl _) _).trans (hb.mono (by simp)) |>.mono HB4.out.size))
    clear hb HB4
    go_wp2_with fail
    go_ret
    exact ⟨by rw [HZ.out]; rfl, HB5.out⟩
  · have g1 : (k == 1) = false := by simp [h3]
    have g2 : (k == 2) = false := by simp [h3]
    have hgood := HGO.out
    have hk1 : e.kind = 3 := HK.out.trans h3
    obtain ⟨-, h7, h8, h9⟩ := (goodE3 hk1).1 hgood
    obtain ⟨m, hm⟩ : ∃ x, e.mask = x := ⟨_, rfl⟩
    have HP := Shut.mk (show partsE e = [N1, numB m.toNat, e.pay] by
      rw [partsE, if_neg (by omega), if_neg (by omega), ← HN1.out, hm, h3]
      rfl)
    rw [HP.out] at HZ HLN
    rw [hm] at cm
    have HC5 := Lib.hid (fun (w' : World) (q : Below w3.heap.size w3 w') => (q.cell (p := ⟨w.heap.size, 70, none⟩) HL3.out).trans cm)
    have HC6 := Lib.hid (fun (w' : World) (q : Below w3.heap.size w3 w') => (q.cell (p := ⟨w.heap.size, 71, none⟩) HL3.out).trans cy)
    have HNM := Lib.hid (fun w' => num_int m w' (by omega) (by omega))
    clear hk1 HP hgood cd cf cq cp cm cy cs hm h7 h8 h9 h3
    go_upto_region 9 with (fail)
    refine wp_region_class_tail (fun w' => Below w3.heap.size w3 w') 6 (by kernel_rfl) (by kernel_rfl) (Below.refl _ _).drew ?_
    simp only [List.take_succ_cons, List.take_zero, List.drop_succ_cons, List.drop_zero]
    repeat (first
      | (go_big_quiet_want; refine quiet_load_cell 3 _ rfl ⟨w.heap.size, 70, none⟩ _ rfl HC5.out Try.isAgg3 ?_; go_big_quiet_on; simp only [Act.put, List.setIfInBounds_toArray, List.set_cons_zero, List.set_cons_succ])
      | (go_big_quiet_want; refine quiet_load_cell 9 _ rfl ⟨w.heap.size, 71, none⟩ _ rfl HC6.out Try.isAgg9 ?_; go_big_quiet_on; simp only [Act.put, List.setIfInBounds_toArray, List.set_cons_zero, List.set_cons_succ])
      | go_big_quiet_step ((intro hs'; first
          | (go_at_call_of 29 (Value.int .i64 m); exact (HNM.out _).mono fun e w' h => ⟨h.1, hs'.trans (h.2.mono hs'.size)⟩)
          | rfl)))
    refine wpQuiet_nil ?_
    intro w4 hs4
    have HB4 := Lib.hid (HB3.out.trans (hs4.mono HB3.out.size))
    clear hs4 HC5 HC6 HNM HB3
    have HS := Lib.hid (at_row15 w4 [N1, numB m.toNat, e.pay] (by simp))
    go_wp2_with fail
    refine (list_any (some ⟨w4.heap.size, 0, none⟩) 3 [N1, numB m.toNat, e.pay] _ HS.out (by simp) (by have := HLN.out; omega)).mono ?_
    rintro r w5 ⟨rfl, hb⟩
    have HB5 := Lib.hid (HB4.out.trans (((Below.refl _ w4).alloc (Nat.le_refl _) _).trans (hb.mono (by simp)) |>.mono HB4.out.size))
    clear hb HB4
    go_wp2_with fail
    go_ret
    exact ⟨by rw [HZ.out]; rfl, HB5.out⟩
end Go.Proofs.Ytenmkfjgjemiiaa
namespace Go.Proofs.Ytenmkfjgjemiiaa
open Go.ChangeShapes Go.WideShapes Go.ChangeAt Go.RowKit
theorem law_own : ownKnob Try.prog.godebug = none := by kernel_rfl
end Go.Proofs.Ytenmkfjgjemiiaa
namespace Go.Proofs.Ytenmkfjgjemiiaa
open Go.RowKit Go.BigFrame
def outOV (m : Int) (p : List UInt8) : Array Value := #[.int .i64 m, .string ⟨p.toArray⟩]
theorem outOV_at (m : Int) (p : List UInt8) {g : Nat} {w : World} (h : Cells g 35 (outOV m p) w) : w.cell? ⟨g, 0, none⟩ = some (.int .i64 m) ∧ w.cell? ⟨g, 1, none⟩ = some (.string ⟨p.toArray⟩) := ⟨h.at 0, h.at 1⟩
set_option maxHeartbeats 4000000 in
set_option maxRecDepth 100000 in
theorem dev_out15 (m : Int) (p : List UInt8) (w : World) :
    Calls Try.prog 15 #[.agg #[.int .i64 m, .string ⟨p.toArray⟩]] w fun e w' => e = .returned (.agg (entV (outE m p))) ∧ Below w.heap.size w w' := by
  have HZE := Lib.hid (show (Try.prog.info? 30).bind (·.zero) = some (.agg (entL noE).toArray) by kernel_rfl)
  have HSZ := Lib.hid (show (entV noE).size = (entV (outE m p)).size by rw [entV_size (outE_ok _ _)]; rfl)
  have HSN := Lib.hid (fun w' => dev_send15 m p w')
  have hx : Cells w.heap.size 35 (outOV m p) (w.alloc (.cells (outOV m p) 35)) := heap_alloc_new w _
  have hb : Below w.heap.size w (w.alloc (.cells (outOV m p) 35)) := (Below.refl _ _).alloc (Nat.le_refl _) _
  have HX := Lib.hid hx
  have HB := Lib.hid hb
  clear hx hb
  go_enter Try.func15, Try.ntmps15
  go_upto_region 1 with (first | (refine wpList_alloc_of rfl 30 rfl (entL noE) HZE.out ?_))
  rw [show (#[.int .i64 m, .string ⟨p.toArray⟩] : Array Value) = outOV m p from rfl]
  obtain ⟨w1, hw1⟩ : ∃ x, x = w.alloc (.cells (outOV m p) 35) := ⟨_, rfl⟩
  rw [← hw1] at HX HB ⊢
  clear hw1
  have hx : Cells w1.heap.size 30 (entV noE) (w1.alloc (.cells (entV noE) 30)) := heap_alloc_new w1 _
  have hb : Below w1.heap.size w1 (w1.alloc (.cells (entV noE) 30)) := (Below.refl _ _).alloc (Nat.le_refl _) _
  change Code.wp _ _ _ _ (w1.alloc (.cells (entV noE) 30))
  have HX2 := Lib.hid (HX.out.below hb)
  have HB2 := Lib.hid (HB.out.trans (hb.mono HB.out.size))
  have HG := Lib.hid HB.out.size
  obtain ⟨w2, hw2⟩ : ∃ x, x = w1.alloc (.cells (entV noE) 30) := ⟨_, rfl⟩
  obtain ⟨g, hg⟩ : ∃ x, w1.heap.size = x := ⟨_, rfl⟩
  rw [← hw2] at hx HX2 HB2 ⊢
  rw [hg] at hx HG ⊢
  have HE := Lib.hid hx
  clear hw2 hg hx hb HX HB
  obtain ⟨c0, c1⟩ := outOV_at m p HX2.out
  go_wp2_with fail
  refine (HSN.out w2).mono ?_
  rintro e w3 ⟨rfl, hb⟩
  have HE3 := Lib.hid (HE.out.below hb)
  have HB3 := Lib.hid (HB2.out.trans (hb.mono HB2.out.size))
  clear hb HE HB2 HX2 c0 c1
  go_wp2_with (first | (refine wpList_store_cells rfl 30 _ _ rfl rfl g (entV noE) (entV (outE m p)) 30 rfl rfl HE3.out (sizeEV (outE_ok _ _)) HSZ.out (entV_all _) ?_))
  intro w9 hc hb
  have HC9 := Lib.hid hc.out
  have HB9 := Lib.hid (show Below w.heap.size w w9 from But.toBelow HB3.out hb.out HG.out HB3.out.size)
  clear hc hb HE3 HB3
  go_wp2_with fail
  refine bodyPost_ret (results_cells rfl _ _ g (entV (outE m p)) 30 _ rfl HC9.out Try.underlying30 rfl (sizeEV (outE_ok _ _))) rfl ?_
  exact ⟨rfl, HB9.out⟩
end Go.Proofs.Ytenmkfjgjemiiaa
namespace Go.Proofs.Ytenmkfjgjemiiaa
open Go.RowKit Go.BigFrame
theorem built_out1 : Try.prog.built 35 [(0, .int .i64 1)] = some #[.int .i64 1, .string ⟨#[]⟩] := by kernel_rfl
theorem built_out0 : Try.prog.built 35 [] = some #[.int .i64 0, .string ⟨#[]⟩] := by kernel_rfl
theorem alive_out1 : decide (GoodE (outE 1 [])) = true := decide_eq_true (.inr (.inr ⟨rfl, ⟨by decide, by decide, by decide⟩, rfl, rfl, rfl, rfl, rfl⟩))
theorem alive_out0 : decide (GoodE (outE 0 [])) = false := decide_eq_false (by
  rintro (h | h | h)
  · exact absurd h.1 (by decide)
  · exact absurd h.1 (by decide)
  · exact absurd h.2.1.1 (by decide))
theorem outE_len (m : Int) (p : List UInt8) (h : p.length ≤ 140737488351232) : (outE m p).Len := ⟨outE_ok m p, Nat.zero_le _, Nat.zero_le _, h, Nat.zero_le _⟩
set_option maxHeartbeats 4000000 in
set_option maxRecDepth 100000 in
theorem alive15_any (w : World) : Calls Try.prog 8 #[] w fun e w' => e = .returned (.bool true) ∧ Below w.heap.size w w' := by
  have HO1 := Lib.hid (fun w' => dev_out15 1 [] w')
  have HO0 := Lib.hid (fun w' => dev_out15 0 [] w')
  have HG1 := Lib.hid (fun w' => dev_good15 (outE 1 []) (outE_len 1 [] (Nat.zero_le _)) w')
  have HG0 := Lib.hid (fun w' => dev_good15 (outE 0 []) (outE_len 0 [] (Nat.zero_le _)) w')
  rw [alive_out1] at HG1
  rw [alive_out0] at HG0
  go_enter Try.func8, Try.ntmps8
  go_wp2_with (refine wpList_build_val rfl 35 _ rfl [(0, .int .i64 1)] _ (by rw [List.map_toArray]; rfl) built_out1 ?_)
  refine (HO1.out w).mono ?_
  rintro e w1 ⟨rfl, hb⟩
  have HB1 := Lib.hid hb
  clear hb
  go_wp2_with fail
  refine (HG1.out w1).mono ?_
  rintro e w2 ⟨rfl, hb⟩
  have HB2 := Lib.hid (HB1.out.trans (hb.mono HB1.out.size))
  clear hb
  go_wp2_with (refine wpList_build_want (by rfl) 35 _ rfl [] _ (by rfl) built_out0 ?_)
  refine (HO0.out w2).mono ?_
  rintro e w3 ⟨rfl, hb⟩
  have HB3 := Lib.hid (HB2.out.trans (hb.mono HB2.out.size))
  clear hb
  go_wp2_with fail
  refine (HG0.out w3).mono ?_
  rintro e w4 ⟨rfl, hb⟩
  have HB4 := Lib.hid (HB3.out.trans (hb.mono HB3.out.size))
  clear hb
  go_wp2_with fail
  go_ret
  exact ⟨rfl, HB4.out⟩
end Go.Proofs.Ytenmkfjgjemiiaa
