/-
  Joined: The table of the round constants, laid; what a law's arguments are.; The developers' log: New, Len, Left.; A row of names that was answered.; The developers' GoodDraft.; An operator whose answer is known, in a plain region.; The developers' Good of layer 15.; Sizes of drafts and operations that the laws let through.; The developers' DraftText.; The developers' Text of layer 15.; The developers' Link, Word, AuthText of layer 16.; The developers' log: Auth.; The values of a printed region, together: what each is once it is there.; In a region whose order is open: an operation by its law for a list; operations that make memory one behind the other (a chain) among others that do not.; The developers' Walk of layer 16.; A slice of structs of K cells appended onto a row of one's own.; The developers' log: Part.
-/
import Derived.Deep.DeepHandedRow
import Derived.Laws.AppendOwnNone
import Derived.Lib.LaidTab
import Derived.Lib.SliceRun
import Derived.Test.YtpfhlhcnmeodbaaDoorCards
import Derived.Test.YtpfhlhcnmeodbaaDoorTie
import Derived.Test.YtpfhlhcnmeodbaaDoorK01
import Derived.Test.YtpfhlhcnmeodbaaDoorK02
import Derived.Test.YtpfhlhcnmeodbaaDoorK05
import Derived.Test.YtpfhlhcnmeodbaaDoorK06
import Derived.Test.YtpfhlhcnmeodbaaDoorK07
import Derived.Test.YtpfhlhcnmeodbaaDoorK08
namespace Go.Proofs.YtpfhlhcnmeodbaaDoor
open Go.ChangeShapes Go.WideShapes Go.ChangeAt Go.RowKit
theorem gK : Tryd.prog.globalNamed "tribunal/sha.roundConstants" = some 0 := by kernel_rfl
theorem gKType : (Tryd.prog.globals[0]?).map (·.type) = some 167 := by kernel_rfl
theorem cellsK : Tryd.prog.cellsOf 167 = 64 := by kernel_rfl
theorem cellsU32 : Tryd.prog.cellsOf 110 = 1 := by kernel_rfl
def kInts : List Int := shaK.map fun (n : Nat) => (n : Int)
theorem k_laid {W : World} (h : laidMetH Tryd.prog [("tribunal/sha.roundConstants", Rows.laid_tribunal_sha_roundConstants)] W) : KAt W := by
  have ht : Lib.TabIs Tryd.prog W "tribunal/sha.roundConstants" .u32 kInts := Lib.tabIs_of_head (rest := []) gK gKType Tryd.underlying167 Tryd.underlying110 cellsU32 cellsK h
  intro j hj
  have hc := ht.cell gK j (by unfold kInts; rw [List.length_map, shaK_len]; exact hj)
  rw [hc]
  have e : kInts.getD j 0 = ((shaK.getD j 0 : Nat) : Int) := by
    unfold kInts
    rw [List.getD_eq_getElem?_getD, List.getElem?_map, List.getD_eq_getElem?_getD, List.getElem?_eq_getElem (by rw [shaK_len]; exact hj)]
    rfl
  rw [e]
noncomputable def laidWorld (os : Os) : World :=
  { World.holding Tryd.prog os ⟨#[], #[], []⟩ with heap := (World.holding Tryd.prog os ⟨#[], #[], []⟩).heap.modify 0 fun
      | .cells _ t frozen => .cells (nums .u32 shaK).toArray t frozen
      | o => o }
end Go.Proofs.YtpfhlhcnmeodbaaDoor
namespace Go.Proofs.YtpfhlhcnmeodbaaDoor
open Go.RowKit Go.BigFrame
theorem LogAt.key {N b : Nat} {kv vL vH : Value} {nd : Int} {seed : List UInt8} {h : Nat} {L : List EntN} {w : World} (l : LogAt N b kv vL vH nd seed h L w) : KeysIs kv seed h w := by
  obtain ⟨w0, _, hk, hb⟩ := l.keys
  exact hk.below hb
theorem LogAt.fields {N b : Nat} {kv vL vH : Value} {nd : Int} {seed : List UInt8} {h : Nat} {L : List EntN} {w : World} (l : LogAt N b kv vL vH nd seed h L w) :
    w.cell? ⟨b, 0, none⟩ = some (.int .i64 nd) ∧ w.cell? ⟨b, 1, none⟩ = some kv ∧ w.cell? ⟨b, 2, none⟩ = some vL ∧ w.cell? ⟨b, 3, none⟩ = some vH := ⟨l.cells.at 0, l.cells.at 1, l.cells.at 2, l.cells.at 3⟩
theorem built_logD (nd : Int) (ka a : Addr) (n c : Nat) : Tryd.prog.built 102 [(0, .int .i64 nd), (1, .pointer (some ka)), (3, .slice (some a) n c)] = some #[.int .i64 nd, .pointer (some ka), .slice none 0 0, .slice (some a) n c] := by kernel_rfl
def appE (h : Nat) (L M : List EntN) : Nat := if ∀ x ∈ M, GoodE x then (if L.length + M.length ≤ 2 ^ h then 0 else 8) else 1
def appL (h : Nat) (L M : List EntN) : List EntN := if appE h L M = 0 then L ++ M else L
def NewLog (B : Nat) (nd : Int) (seed : List UInt8) (h : Nat) (e : Ending) (w' : World) : Prop := ∃ v O, e = .returned (.tuple #[v, .int .i64 0]) ∧ LogIs B O v nd seed h [] w' ∧ ∀ b, O b → B ≤ b
set_option maxHeartbeats 4000000 in
set_option maxRecDepth 100000 in
theorem dev_newLog (nd : Int) (kv : Value) (seed : List UInt8) (h : Nat) (w : World) (k : KeysIs kv seed h w) (h0 : 0 ≤ nd) (h4 : nd ≤ 4) :
    Calls Tryd.prog 28 #[.int .i64 nd, kv] w fun e w' => NewLog w.heap.size nd seed h e w' ∧ Below w.heap.size w w' := by
  obtain ⟨ka, rfl⟩ := k.ptr
  have HK := Lib.hid k
  obtain ⟨i0, hi0, hz0, hz1, hz2⟩ := info_parts Tryd.infoI32
  have HIF := Lib.hid hi0
  have HZ0 := Lib.hid hz0
  have HZ1 := Lib.hid hz1
  have HZ2 := Lib.hid hz2
  clear k hi0 hz0 hz1 hz2
  go_enter Tryd.func28, Tryd.ntmps28
  have g1 : decide (nd < 0) = false := decide_eq_false (by omega)
  have g2 : decide (5 ≤ nd) = false := decide_eq_false (by omega)
  go_wp2_with (at_make; refine wpList_make_full _ rfl _ _ 29 rfl w.heap.size 24 i0 _ 32 Tryd.underlying29 HIF.out HZ0.out HZ1.out .i64 .i64 _ _ 1 rfl rfl rfl rfl (by rw [HZ2.out]; decide) (by unfold maxLen; omega) (Nat.le_refl _) ?_)
  intro w2 ho2 hg2
  have hb2 := (Below.refl w.heap.size w).grown hg2 (Nat.le_refl _) (fun k hk => by cases hk)
  have HO2 := Lib.hid (show OwnI w.heap.size 24 (.slice (some ⟨w.heap.size, 0, none⟩) 1 1) (allH []) w2 from OwnI.made ho2)
  have HB2 := Lib.hid hb2
  have HBL := Lib.hid (built_logD nd ka ⟨w.heap.size, 0, none⟩ 1 1)
  clear ho2 hg2 hb2
  go_wp2_with (refine wpList_build_val rfl 102 _ rfl [(0, .int .i64 nd), (1, .pointer (some ka)), (3, .slice (some ⟨w.heap.size, 0, none⟩) 1 1)] _ (by rw [List.map_toArray]; rfl) HBL.out ?_)
  have hc3 : Cells w2.heap.size 102 #[.int .i64 nd, .pointer (some ka), .slice none 0 0, .slice (some ⟨w.heap.size, 0, none⟩) 1 1] (w2.alloc (.cells #[.int .i64 nd, .pointer (some ka), .slice none 0 0, .slice (some ⟨w.heap.size, 0, none⟩) 1 1] 102)) := heap_alloc_new w2 _
  have hb3 : Below w2.heap.size w2 (w2.alloc (.cells #[.int .i64 nd, .pointer (some ka), .slice none 0 0, .slice (some ⟨w.heap.size, 0, none⟩) 1 1] 102)) := (Below.refl _ _).alloc (Nat.le_refl _) _
  have hlt := (HO2.out.formB (by rw [allH_len]; exact Nat.succ_pos _))
  have HBW := HB2.out.trans (hb3.mono HB2.out.size)
  go_ret2
  refine ⟨⟨_, _, rfl, ⟨w2.heap.size, _, .slice none 0 0, .slice (some ⟨w.heap.size, 0, none⟩) 1 1, rfl, rfl, hc3, OwnE15.nil _ _, (HO2.out.below hb3).mono (Nat.zero_le _), ⟨w, Nat.le_refl _, HK.out, HBW⟩, ?_, Nat.zero_le _, h0, h4⟩, ?_⟩, HBW⟩
  all_goals
    rintro x (rfl | hx | hx)
    · exact HB2.out.size
    · cases hx
    · simp only [Value.ownBlock, Option.some.injEq] at hx
      omega
theorem dev_len {N : Nat} {O : Nat → Prop} {v : Value} {nd : Int} {seed : List UInt8} {h : Nat} {L : List EntN} (w : World) (l : LogIs N O v nd seed h L w) :
    Calls Tryd.prog 32 #[v] w fun e w' => e = .returned (.int .i64 (L.length : Int)) ∧ Below w.heap.size w w' := by
  obtain ⟨b, kv, vL, vH, rfl, rfl, l⟩ := l
  obtain ⟨ao, cap, rfl⟩ := l.ents.form
  obtain ⟨-, -, c2, -⟩ := l.fields
  clear l
  generalize L.length = n at *
  go_enter Tryd.func32, Tryd.ntmps32
  go_wp2_with fail
  go_ret
  exact ⟨rfl, Below.refl _ _⟩
theorem dev_left {N : Nat} {O : Nat → Prop} {v : Value} {nd : Int} {seed : List UInt8} {h : Nat} {L : List EntN} (w : World) (l : LogIs N O v nd seed h L w) (hl : L.length ≤ 2 ^ h) :
    Calls Tryd.prog 30 #[v] w fun e w' => e = .returned (.int .i64 (((2 ^ h - L.length : Nat)) : Int)) ∧ Below w.heap.size w w' := by
  obtain ⟨b, kv, vL, vH, rfl, rfl, l⟩ := l
  obtain ⟨ao, cap, rfl⟩ := l.ents.form
  obtain ⟨-, c1, c2, -⟩ := l.fields
  have hk := l.key
  obtain ⟨ka, hka⟩ := hk.ptr
  have h8 := two_le hk.high
  have HCN := Lib.hid (fun w' (q : Below w.heap.size w w') => dev_count kv seed h w' (hk.below q))
  have HB := Lib.hid l.cells.lt
  subst hka
  clear l hk
  generalize L.length = n at *
  generalize 2 ^ h = m at *
  have HC1 := Lib.hid (fun (w' : World) (q : Below w.heap.size w w') => (q.cell (p := ⟨b, 1, none⟩) HB.out).trans c1)
  have HC2 := Lib.hid (fun (w' : World) (q : Below w.heap.size w w') => (q.cell (p := ⟨b, 2, none⟩) HB.out).trans c2)
  clear c1 c2
  go_enter Tryd.func30, Tryd.ntmps30
  go_upto_region 3 with (fail)
  refine wp_region_class (fun w' => Below w.heap.size w w') (by kernel_rfl) (by kernel_rfl) (Below.refl _ _).drew ?_
  repeat (first
    | (go_big_quiet_want; refine quiet_load_cell 55 _ rfl ⟨b, 1, none⟩ _ rfl HC1.out Tryd.isAgg55 ?_; go_big_quiet_on; simp only [Act.put, List.setIfInBounds_toArray, List.set_cons_zero, List.set_cons_succ])
    | (go_big_quiet_want; refine quiet_load_cell 23 _ rfl ⟨b, 2, none⟩ _ rfl HC2.out Tryd.isAgg23 ?_; go_big_quiet_on; simp only [Act.put, List.setIfInBounds_toArray, List.set_cons_zero, List.set_cons_succ])
    | go_big_quiet_step ((intro hs'; first
        | (go_at_call 57; exact (HCN.out _ hs').mono fun e w' h => ⟨h.1, hs'.trans (h.2.mono hs'.size)⟩)
        | rfl)))
  refine wpQuiet_nil ?_
  intro w2 hs2
  have HB2 := Lib.hid hs2
  clear hs2
  go_wp2_with fail
  go_ret
  exact ⟨by go_num, HB2.out⟩
theorem dev_has {N : Nat} {O : Nat → Prop} {v : Value} {nd : Int} {seed : List UInt8} {h : Nat} {L : List EntN} (q : Int) (w : World) (l : LogIs N O v nd seed h L w) :
    Calls Tryd.prog 56 #[v, .int .i64 q] w fun e w' => e = .returned (.bool (decide (1 ≤ q ∧ q ≤ L.length))) ∧ Below w.heap.size w w' := by
  have HL := Lib.hid (dev_len w l)
  clear l
  generalize L.length = n at *
  go_enter Tryd.func56, Tryd.ntmps56
  by_cases h1 : 1 ≤ q
  · have g1 : decide (1 ≤ q) = true := decide_eq_true h1
    go_wp2_with fail
    refine HL.out.mono ?_
    rintro e w1 ⟨rfl, hb⟩
    have HB := Lib.hid hb
    clear hb HL
    go_wp2_with fail
    go_ret
    exact ⟨by simp [h1], HB.out⟩
  · have g1 : decide (1 ≤ q) = false := decide_eq_false h1
    go_wp2_with fail
    go_ret
    exact ⟨rfl, Below.refl _ _⟩
end Go.Proofs.YtpfhlhcnmeodbaaDoor
namespace Go.Proofs.YtpfhlhcnmeodbaaDoor
open Go.RowKit Go.BigFrame
def RowI (B : Nat) (L : List (List Nat)) (e : Ending) (w' : World) : Prop := ∃ v, e = .returned v ∧ OwnI B 24 v L w'
end Go.Proofs.YtpfhlhcnmeodbaaDoor
namespace Go.Proofs.YtpfhlhcnmeodbaaDoor
open Go.RowKit Go.BigFrame
def fitsK (d : DraftN) : Bool := if d.kind = 1 ∨ d.kind = 2 ∨ d.kind = 3 then (d.ref == zeroI) else if d.kind = 4 then true else if d.kind = 5 then !(d.ref == zeroI) && d.val == [] else false
theorem good_fits (d : DraftN) : GoodD d ↔ 1 ≤ d.key.length ∧ d.key.length ≤ 16 ∧ d.val.length ≤ 64 ∧ fitsK d = true := by
  unfold GoodD fitsK
  constructor
  · rintro ⟨h1, h2, h3, h4, h5, h6, h7⟩
    refine ⟨h3, h4, h5, ?_⟩
    split
    · rw [h6 (by omega)]; simp
    · split
      · rfl
      · split
        · obtain ⟨a, b⟩ := h7 (by omega)
          simp [a, b]
        · omega
  · rintro ⟨h3, h4, h5, h⟩
    split at h
    · exact ⟨by omega, by omega, h3, h4, h5, fun _ => by simpa using h, fun h => by omega⟩
    · split at h
      · exact ⟨by omega, by omega, h3, h4, h5, fun h => by omega, fun h => by omega⟩
      · split at h
        · simp at h
          exact ⟨by omega, by omega, h3, h4, h5, fun h => by omega, fun _ => h⟩
        · cases h
set_option maxHeartbeats 2000000 in
set_option maxRecDepth 100000 in
theorem dev_fitsKind (d : DraftN) (hr : IdOk d.ref) (w : World) :
    Calls Tryd.prog 119 #[.agg (draftV d)] w fun e w' => e = .returned (.bool (fitsK d)) ∧ Below w.heap.size w w' := by
  have hx : Cells w.heap.size 33 (draftV d) (w.alloc (.cells (draftV d) 33)) := heap_alloc_new w _
  have hb : Below w.heap.size w (w.alloc (.cells (draftV d) 33)) := (Below.refl _ _).alloc (Nat.le_refl _) _
  obtain ⟨c0, c1, c2, c3⟩ := draft_cells hx
  have HC3 := Lib.hid c3
  have HB := Lib.hid hb
  have heq := fun w' => equal_idI d.ref zeroI hr.1 zeroI_ok.1 hr.2 zeroI_ok.2 w'
  have HI := Lib.hid (show (Tryd.prog.info? 24).map (·.size) = some d.ref.length by rw [hr.1]; exact Tryd.sizeI)
  obtain ⟨k, hkd⟩ : ∃ k, d.kind = k := ⟨_, rfl⟩
  obtain ⟨z, hz2⟩ : ∃ z, (d.ref == zeroI) = z := ⟨_, rfl⟩
  have HG := Shut.mk (show fitsK d = if k = 1 ∨ k = 2 ∨ k = 3 then z else if k = 4 then true else if k = 5 then !z && d.val == [] else false by rw [fitsK, hkd, hz2])
  rw [hkd] at c0
  rw [hz2, zeroI_lit] at heq
  clear hx hb c3 hz2
  by_cases h1 : k = 1
  · subst h1
    have hgd : fitsK d = z := HG.out
    rw [hgd]
    clear hgd
    go_enter Tryd.func119, Tryd.ntmps119
    cases z <;> go_wp2_with (refine wpList_load_id rfl 24 _ rfl w.heap.size 3 d.ref _ rfl HC3.out Tryd.underlying24 rfl HI.out ?_)
    all_goals
      go_ret
      exact ⟨rfl, HB.out⟩
  by_cases h2 : k = 2
  · subst h2
    have hgd : fitsK d = z := HG.out
    rw [hgd]
    clear hgd
    go_enter Tryd.func119, Tryd.ntmps119
    cases z <;> go_wp2_with (refine wpList_load_id rfl 24 _ rfl w.heap.size 3 d.ref _ rfl HC3.out Tryd.underlying24 rfl HI.out ?_)
    all_goals
      go_ret
      exact ⟨rfl, HB.out⟩
  by_cases h3 : k = 3
  · subst h3
    have hgd : fitsK d = z := HG.out
    rw [hgd]
    clear hgd
    go_enter Tryd.func119, Tryd.ntmps119
    cases z <;> go_wp2_with (refine wpList_load_id rfl 24 _ rfl w.heap.size 3 d.ref _ rfl HC3.out Tryd.underlying24 rfl HI.out ?_)
    all_goals
      go_ret
      exact ⟨rfl, HB.out⟩
  by_cases h4 : k = 4
  · subst h4
    have hgd : fitsK d = true := HG.out
    rw [hgd]
    clear hgd
    go_enter Tryd.func119, Tryd.ntmps119
    cases z <;> go_wp2_with (refine wpList_load_id rfl 24 _ rfl w.heap.size 3 d.ref _ rfl HC3.out Tryd.underlying24 rfl HI.out ?_)
    all_goals
      go_ret
      exact ⟨rfl, HB.out⟩
  by_cases h5 : k = 5
  · subst h5
    have hgd : fitsK d = (!z && d.val == []) := HG.out
    rw [hgd]
    clear hgd
    go_enter Tryd.func119, Tryd.ntmps119
    cases z <;> go_wp2_with (refine wpList_load_id rfl 24 _ rfl w.heap.size 3 d.ref _ rfl HC3.out Tryd.underlying24 rfl HI.out ?_)
    all_goals
      go_ret
      exact ⟨rfl, HB.out⟩
  have t1 : (k == 1) = false := by simp [h1]
  have t2 : (k == 2) = false := by simp [h2]
  have t3 : (k == 3) = false := by simp [h3]
  have t4 : (k == 4) = false := by simp [h4]
  have t5 : (k == 5) = false := by simp [h5]
  have hgd : fitsK d = false := by rw [HG.out, if_neg (by omega), if_neg h4, if_neg h5]
  rw [hgd]
  clear hgd
  go_enter Tryd.func119, Tryd.ntmps119
  cases z <;> go_wp2_with (refine wpList_load_id rfl 24 _ rfl w.heap.size 3 d.ref _ rfl HC3.out Tryd.underlying24 rfl HI.out ?_)
  all_goals
    go_ret
    exact ⟨rfl, HB.out⟩
set_option maxHeartbeats 2000000 in
set_option maxRecDepth 100000 in
theorem dev_goodDraft (d : DraftN) (hr : IdOk d.ref) (hk : d.key.length ≤ 140737488351232) (hv : d.val.length ≤ 140737488351232) (w : World) :
    Calls Tryd.prog 91 #[.agg (draftV d)] w fun e w' => e = .returned (.bool (decide (GoodD d))) ∧ Below w.heap.size w w' := by
  have hx : Cells w.heap.size 33 (draftV d) (w.alloc (.cells (draftV d) 33)) := heap_alloc_new w _
  have hb : Below w.heap.size w (w.alloc (.cells (draftV d) 33)) := (Below.refl _ _).alloc (Nat.le_refl _) _
  obtain ⟨c0, c1, c2, c3⟩ := draft_cells hx
  have HX := Lib.hid hx
  have HB := Lib.hid hb
  have HSD := Lib.hid (show (Tryd.prog.info? 33).map (·.size) = some (draftV d).size by rw [draftV_size hr.1]; exact Tryd.sizeD)
  have HF := Lib.hid (fun w' => dev_fitsKind d hr w')
  obtain ⟨f, hf⟩ : ∃ f, fitsK d = f := ⟨_, rfl⟩
  obtain ⟨kl, hkl⟩ : ∃ n, d.key.length = n := ⟨_, rfl⟩
  obtain ⟨vl, hvl⟩ : ∃ n, d.val.length = n := ⟨_, rfl⟩
  have hke : (d.key == []) = decide (kl = 0) := by rw [val_nil_beq, ← hkl]; simp [List.length_eq_zero_iff]
  have HG := Shut.mk (show decide (GoodD d) = decide (1 ≤ kl ∧ kl ≤ 16 ∧ vl ≤ 64 ∧ f = true) from decide_eq_decide.2 (by rw [good_fits, hkl, hvl, hf]))
  rw [hf] at HF
  clear hx hb c0 c3 hf
  by_cases h1 : kl = 0
  · have e1 : (d.key == []) = true := by rw [hke]; exact decide_eq_true h1
    have HR := Shut.mk (HG.out.trans (decide_eq_false (by omega)))
    clear hke
    go_enter Tryd.func91, Tryd.ntmps91
    go_wp2_with fail
    go_ret
    exact ⟨by rw [HR.out]; rfl, HB.out⟩
  have e1 : (d.key == []) = false := by rw [hke]; exact decide_eq_false h1
  clear hke
  by_cases h2 : 16 < kl
  · have HR := Shut.mk (HG.out.trans (decide_eq_false (by omega)))
    have h2b : decide ((kl : Int) ≤ 16) = false := decide_eq_false (by omega)
    go_enter Tryd.func91, Tryd.ntmps91
    go_wp2_with fail
    go_ret
    exact ⟨by rw [HR.out]; rfl, HB.out⟩
  have h2b : decide ((kl : Int) ≤ 16) = true := decide_eq_true (by omega)
  by_cases h3 : 64 < vl
  · have HR := Shut.mk (HG.out.trans (decide_eq_false (by omega)))
    have h3b : decide ((vl : Int) ≤ 64) = false := decide_eq_false (by omega)
    go_enter Tryd.func91, Tryd.ntmps91
    go_wp2_with fail
    go_ret
    exact ⟨by rw [HR.out]; rfl, HB.out⟩
  have h3b : decide ((vl : Int) ≤ 64) = true := decide_eq_true (by omega)
  have HR := Shut.mk (show decide (GoodD d) = f by rw [HG.out]; cases f with | true => exact decide_eq_true ⟨by omega, by omega, by omega, rfl⟩ | false => exact decide_eq_false (fun h => by cases h.2.2.2))
  go_enter Tryd.func91, Tryd.ntmps91
  go_wp2_with (refine wpList_load_cells_want (by rfl) 33 _ rfl w.heap.size (draftV d) 33 _ rfl HX.out Tryd.underlying33 rfl HSD.out ?_)
  refine (HF.out _).mono ?_
  rintro e w1 ⟨rfl, hb⟩
  have HB1 := Lib.hid (HB.out.trans (hb.mono HB.out.size))
  clear hb
  go_wp2_with fail
  go_ret
  exact ⟨by rw [HR.out]; rfl, HB1.out⟩
end Go.Proofs.YtpfhlhcnmeodbaaDoor
namespace Go.Proofs.YtpfhlhcnmeodbaaDoor
open Go.RowKit Go.BigFrame
theorem wpList_bin {P : Program} {ops : Array Oper} {rest : List Oper} {o : Oper} {a : Act} {w : World} {Q : Exit → Act → World → Prop} (hg0 : o.guard = none) (op : BinOp) (t u : TypeId) (x y : Operand) (ho : o.op = .binOp op t x y u) (vx vy r : Value) (hx : a.eval x = vx) (hy : a.eval y = vy)
    (hg : ∀ w, (eqGuard op t x y vx vy).run P w = .ok () w) (hr : ∀ w, (binOp op t vx vy).run P w = .ok r w) (hk : wpList P ops Q rest (a.put o.dst r) w) : wpList P ops Q (o :: rest) a w :=
  wpList_plain hg0 fun _ hK => (op_bin op t u x y ho vx vy r hx hy hg hr (hK _ _ hk)).out
end Go.Proofs.YtpfhlhcnmeodbaaDoor
namespace Go.Proofs.YtpfhlhcnmeodbaaDoor
open Go.RowKit Go.BigFrame
def localE (d : DraftN) : EntN := ⟨1, d, 0, 0, zeroI, 0, [], []⟩
theorem localE_ok {d : DraftN} (h : IdOk d.ref) : (localE d).Ok := ⟨h, zeroI_ok⟩
theorem built_local (d : DraftN) (hd : IdOk d.ref) : Tryd.prog.built 35 [(0, .int .i64 1), (1, .agg (draftV d))] = some (entV (localE d)) := by
  rw [ent_fill, fill_kind, fill_draft _ _ ⟨zeroI_ok, zeroI_ok⟩ _ hd, fill_end]
  rfl
theorem results_cells {P : Program} {fn : Func} {p : Tmp} {ty : TypeId} (h : fn.results = #[.cell p ty]) (tmps : Array Value) (w : World) (g : Nat) (cs : Array Value) (t : TypeId) (d : TypeDesc)
    (hp : tmps.getD p undef = .pointer (some ⟨g, 0, none⟩)) (hg : Cells g t cs w)
    (hu : P.underlying ty = some d) (hd : (match d with | .struct _ | .array _ _ => true | _ => false) = true) (hi : (P.info? ty).map (·.size) = some cs.size) :
    (results fn tmps).run P w = .ok (.agg cs) w :=
  results_cell_row h tmps w g t _ (0, 0) d hp hg hu hd hi
theorem goodE1 {e : EntN} (h : e.kind = 1) : GoodE e ↔ e = localE e.d ∧ GoodD e.d := by
  obtain ⟨k, d, f, q, p, m, y, s⟩ := e
  simp only at h
  subst h
  simp only [GoodE, BareE, localE, EntN.mk.injEq, true_and]
  constructor
  · rintro (⟨a, ⟨b1, b2, b3, b4⟩, c, e⟩ | ⟨h, _⟩ | ⟨h, _⟩)
    · exact ⟨⟨b1, b2, b3, c, e, b4⟩, a⟩
    · cases h
    · cases h
  · rintro ⟨⟨b1, b2, b3, c, e, b4⟩, a⟩
    exact .inl ⟨a, ⟨b1, b2, b3, b4⟩, c, e⟩
def OrigE (e : EntN) : Prop := 0 ≤ e.src ∧ e.src ≤ 4 ∧ 1 ≤ e.seq
instance (e : EntN) : Decidable (OrigE e) := by unfold OrigE; infer_instance
theorem goodE2 {e : EntN} (h : e.kind = 2) : GoodE e ↔ e.d = noD ∧ OrigE e ∧ OutE e ∧ e.sig.length ≤ 1024 := by
  rw [GoodE, OrigE]
  constructor
  · rintro (⟨a, _⟩ | ⟨_, a, b, c, d, f, g⟩ | ⟨a, _⟩)
    · omega
    · exact ⟨b, ⟨c, d, f⟩, a, g⟩
    · omega
  · rintro ⟨b, ⟨c, d, f⟩, a, g⟩
    exact .inr (.inl ⟨h, a, b, c, d, f, g⟩)
theorem goodE3 {e : EntN} (h : e.kind = 3) : GoodE e ↔ e = outE e.mask e.pay ∧ OutE e := by
  obtain ⟨k, d, f, q, p, m, y, s⟩ := e
  simp only at h
  subst h
  simp only [GoodE, BareE, outE, EntN.mk.injEq, true_and]
  constructor
  · rintro (⟨h, _⟩ | ⟨h, _⟩ | ⟨a, b, c1, c2, c3, c4⟩)
    · cases h
    · cases h
    · exact ⟨⟨b, c1, c2, c3, c4⟩, a⟩
  · rintro ⟨⟨b, c1, c2, c3, c4⟩, a⟩
    exact .inr (.inr ⟨a, b, c1, c2, c3, c4⟩)
theorem goodE0 {e : EntN} (h1 : e.kind ≠ 1) (h2 : e.kind ≠ 2) (h3 : e.kind ≠ 3) : ¬ GoodE e := by
  rintro (h | h | h)
  · exact h1 h.1
  · exact h2 h.1
  · exact h3 h.1
set_option maxHeartbeats 4000000 in
set_option maxRecDepth 100000 in
theorem dev_local15 (d : DraftN) (hr : IdOk d.ref) (w : World) :
    Calls Tryd.prog 90 #[.agg (draftV d)] w fun r w' => r = .returned (.agg (entV (localE d))) ∧ Below w.heap.size w w' := by
  have HZE := Lib.hid (show (Tryd.prog.info? 35).bind (·.zero) = some (.agg (entL noE).toArray) by kernel_rfl)
  have HSD := Lib.hid (show (Tryd.prog.info? 33).map (·.size) = some (draftV d).size by rw [draftV_size hr.1]; exact Tryd.sizeD)
  have HSE := Lib.hid (sizeEV (localE_ok hr))
  have HBL := Lib.hid (built_local d hr)
  have HSZ := Lib.hid (show (entV noE).size = (entV (localE d)).size by rw [entV_size (localE_ok hr)]; rfl)
  have hx : Cells w.heap.size 33 (draftV d) (w.alloc (.cells (draftV d) 33)) := heap_alloc_new w _
  have hb : Below w.heap.size w (w.alloc (.cells (draftV d) 33)) := (Below.refl _ _).alloc (Nat.le_refl _) _
  have HX := Lib.hid hx
  have HB := Lib.hid hb
  clear hr hx hb
  go_enter Tryd.func90, Tryd.ntmps90
  go_upto_region 1 with (first | (refine wpList_alloc_of rfl 35 rfl (entL noE) HZE.out ?_))
  obtain ⟨w1, hw1⟩ : ∃ x, x = w.alloc (.cells (draftV d) 33) := ⟨_, rfl⟩
  rw [← hw1] at HX HB ⊢
  clear hw1
  have hx : Cells w1.heap.size 35 (entV noE) (w1.alloc (.cells (entV noE) 35)) := heap_alloc_new w1 _
  have hb : Below w1.heap.size w1 (w1.alloc (.cells (entV noE) 35)) := (Below.refl _ _).alloc (Nat.le_refl _) _
  change Code.wp _ _ _ _ (w1.alloc (.cells (entV noE) 35))
  have HX2 := Lib.hid (HX.out.below hb)
  have HB2 := Lib.hid (HB.out.trans (hb.mono HB.out.size))
  have HG := Lib.hid HB.out.size
  obtain ⟨w2, hw2⟩ : ∃ x, x = w1.alloc (.cells (entV noE) 35) := ⟨_, rfl⟩
  obtain ⟨g, hg⟩ : ∃ x, w1.heap.size = x := ⟨_, rfl⟩
  rw [← hw2] at hx HX2 HB2 ⊢
  rw [hg] at hx HG ⊢
  have HE := Lib.hid hx
  clear hw2 hg hx hb HX HB
  refine wp_region_lit ?_
  refine wpList_load_cells rfl 33 _ rfl w.heap.size (draftV d) 33 _ rfl HX2.out Tryd.underlying33 rfl HSD.out ?_
  simp only [Act.put, List.setIfInBounds_toArray, List.set_cons_zero, List.set_cons_succ]
  refine wpList_build_val rfl 35 _ rfl [(0, .int .i64 1), (1, .agg (draftV d))] _ (by simp; exact ⟨rfl, rfl⟩) HBL.out ?_
  simp only [Act.put, List.setIfInBounds_toArray, List.set_cons_zero, List.set_cons_succ]
  refine wpList_store_cells rfl 35 _ _ rfl rfl g (entV noE) (entV (localE d)) 35 rfl rfl HE.out HSE.out HSZ.out (entV_all _) ?_
  intro w9 hc hb
  have HC9 := Lib.hid hc.out
  have HB9 := Lib.hid (show Below w.heap.size w w9 from But.toBelow HB2.out hb.out HG.out HB2.out.size)
  clear hc hb HE HB2
  go_wp2_with fail
  refine bodyPost_ret (results_cells rfl _ _ g (entV (localE d)) 35 _ rfl HC9.out Tryd.underlying35 rfl HSE.out) rfl ?_
  exact ⟨rfl, HB9.out⟩
set_option maxHeartbeats 4000000 in
set_option maxRecDepth 100000 in
theorem dev_send15 (m : Int) (p : List UInt8) (w : World) :
    Calls Tryd.prog 94 #[.int .i64 m, .string ⟨p.toArray⟩] w fun r w' => r = .returned (.agg (entV (outE m p))) ∧ Below w.heap.size w w' := by
  have HZE := Lib.hid (show (Tryd.prog.info? 35).bind (·.zero) = some (.agg (entL noE).toArray) by kernel_rfl)
  have HSE := Lib.hid (sizeEV (outE_ok m p))
  have HBL := Lib.hid (built_out m p)
  have HSZ := Lib.hid (show (entV noE).size = (entV (outE m p)).size by rw [entV_size (outE_ok m p)]; rfl)
  have hx : Cells w.heap.size 35 (entV noE) (w.alloc (.cells (entV noE) 35)) := heap_alloc_new w _
  have hb : Below w.heap.size w (w.alloc (.cells (entV noE) 35)) := (Below.refl _ _).alloc (Nat.le_refl _) _
  go_enter Tryd.func94, Tryd.ntmps94
  go_upto_region 1 with (first | (refine wpList_alloc_of rfl 35 rfl (entL noE) HZE.out ?_))
  change Code.wp _ _ _ _ (w.alloc (.cells (entV noE) 35))
  obtain ⟨w2, hw2⟩ : ∃ x, x = w.alloc (.cells (entV noE) 35) := ⟨_, rfl⟩
  rw [← hw2] at hx hb ⊢
  have HE := Lib.hid hx
  have HB := Lib.hid hb
  clear hw2 hx hb
  go_wp2_with (first
    | (refine wpList_build_val rfl 35 _ rfl [(0, .int .i64 3), (5, .int .i64 m), (6, .string ⟨p.toArray⟩)] _ rfl HBL.out ?_)
    | (refine wpList_store_cells rfl 35 _ _ rfl rfl w.heap.size (entV noE) (entV (outE m p)) 35 rfl rfl HE.out HSE.out HSZ.out (entV_all _) ?_))
  intro w9 hc hb
  have HC9 := Lib.hid hc.out
  have HB9 := Lib.hid (show Below w.heap.size w w9 from But.toBelow HB.out hb.out (Nat.le_refl _) HB.out.size)
  clear hc hb HE HB
  go_wp2_with fail
  refine bodyPost_ret (results_cells rfl _ _ w.heap.size (entV (outE m p)) 35 _ rfl HC9.out Tryd.underlying35 rfl HSE.out) rfl ?_
  exact ⟨rfl, HB9.out⟩
set_option maxHeartbeats 4000000 in
set_option maxRecDepth 100000 in
theorem dev_origin15 (e : EntN) (he : e.Ok) (w : World) :
    Calls Tryd.prog 92 #[.agg (entV e)] w fun r w' => r = .returned (.bool (decide (OrigE e))) ∧ Below w.heap.size w w' := by
  have hx : Cells w.heap.size 35 (entV e) (w.alloc (.cells (entV e) 35)) := heap_alloc_new w _
  have hb : Below w.heap.size w (w.alloc (.cells (entV e) 35)) := (Below.refl _ _).alloc (Nat.le_refl _) _
  have HB := Lib.hid hb
  obtain ⟨c0, cd, cf, cq, cp, cm, cy, cs⟩ := ent_cells he hx
  have HCF := Lib.hid cf
  have HCQ := Lib.hid cq
  clear hx hb c0 cd cf cq cp cm cy cs
  obtain ⟨f, hf⟩ : ∃ x, e.src = x := ⟨_, rfl⟩
  obtain ⟨q, hq⟩ : ∃ x, e.seq = x := ⟨_, rfl⟩
  rw [hf] at HCF
  rw [hq] at HCQ
  have HO := Shut.mk (show decide (OrigE e) = (decide (0 ≤ f) && decide (f < 5) && decide (0 < q)) by
    rw [Bool.eq_iff_iff]
    simp only [decide_eq_true_eq, Bool.and_eq_true, OrigE, hf, hq]
    omega)
  clear hf hq
  go_enter Tryd.func92, Tryd.ntmps92
  go_upto_region 1 with (fail)
  obtain ⟨w1, hw1⟩ : ∃ x, x = w.alloc (.cells (entV e) 35) := ⟨_, rfl⟩
  rw [← hw1] at HB HCF HCQ ⊢
  clear hw1
  have cf := HCF.out
  have cq := HCQ.out
  clear HCF HCQ
  by_cases h1 : 0 ≤ f
  · have g1 : decide (0 ≤ f) = true := decide_eq_true h1
    by_cases h2 : f < 5
    · have g2 : decide (f < 5) = true := decide_eq_true h2
      by_cases h3 : 0 < q
      · have g3 : decide (0 < q) = true := decide_eq_true h3
        rw [g1, g2, g3] at HO
        go_wp2_with fail
        go_ret
        exact ⟨by rw [HO.out]; rfl, HB.out⟩
      · have g3 : decide (0 < q) = false := decide_eq_false h3
        rw [g1, g2, g3] at HO
        go_wp2_with fail
        go_ret
        exact ⟨by rw [HO.out]; rfl, HB.out⟩
    · have g2 : decide (f < 5) = false := decide_eq_false h2
      rw [g1, g2] at HO
      go_wp2_with fail
      go_ret
      exact ⟨by rw [HO.out]; rfl, HB.out⟩
  · have g1 : decide (0 ≤ f) = false := decide_eq_false h1
    rw [g1] at HO
    go_wp2_with fail
    go_ret
    exact ⟨by rw [HO.out]; rfl, HB.out⟩
set_option maxHeartbeats 4000000 in
set_option maxRecDepth 100000 in
theorem dev_cargo15 (e : EntN) (he : e.Ok) (w : World) :
    Calls Tryd.prog 93 #[.agg (entV e)] w fun r w' => r = .returned (.bool (decide (OutE e))) ∧ Below w.heap.size w w' := by
  have hx : Cells w.heap.size 35 (entV e) (w.alloc (.cells (entV e) 35)) := heap_alloc_new w _
  have hb : Below w.heap.size w (w.alloc (.cells (entV e) 35)) := (Below.refl _ _).alloc (Nat.le_refl _) _
  have HB := Lib.hid hb
  obtain ⟨c0, cd, cf, cq, cp, cm, cy, cs⟩ := ent_cells he hx
  have HCF := Lib.hid cm
  have HCQ := Lib.hid cy
  clear hx hb c0 cd cf cq cp cm cy cs
  obtain ⟨f, hf⟩ : ∃ x, e.mask = x := ⟨_, rfl⟩
  obtain ⟨q, hq⟩ : ∃ n, e.pay.length = n := ⟨_, rfl⟩
  rw [hf] at HCF
  have HO := Shut.mk (show decide (OutE e) = (decide (0 < f) && decide (f ≤ 31) && decide ((q : Int) ≤ 2048)) by
    rw [Bool.eq_iff_iff]
    simp only [decide_eq_true_eq, Bool.and_eq_true, OutE, hf, hq]
    omega)
  clear hf
  go_enter Tryd.func93, Tryd.ntmps93
  go_upto_region 1 with (fail)
  obtain ⟨w1, hw1⟩ : ∃ x, x = w.alloc (.cells (entV e) 35) := ⟨_, rfl⟩
  rw [← hw1] at HB HCF HCQ ⊢
  clear hw1
  have cf := HCF.out
  have cq := HCQ.out
  clear HCF HCQ
  by_cases h1 : 0 < f
  · have g1 : decide (0 < f) = true := decide_eq_true h1
    by_cases h2 : f ≤ 31
    · have g2 : decide (f ≤ 31) = true := decide_eq_true h2
      by_cases h3 : (q : Int) ≤ 2048
      · have g3 : decide ((q : Int) ≤ 2048) = true := decide_eq_true h3
        rw [g1, g2, g3] at HO
        go_wp2_with fail
        go_ret
        exact ⟨by rw [HO.out]; rfl, HB.out⟩
      · have g3 : decide ((q : Int) ≤ 2048) = false := decide_eq_false h3
        rw [g1, g2, g3] at HO
        go_wp2_with fail
        go_ret
        exact ⟨by rw [HO.out]; rfl, HB.out⟩
    · have g2 : decide (f ≤ 31) = false := decide_eq_false h2
      rw [g1, g2] at HO
      go_wp2_with fail
      go_ret
      exact ⟨by rw [HO.out]; rfl, HB.out⟩
  · have g1 : decide (0 < f) = false := decide_eq_false h1
    rw [g1] at HO
    go_wp2_with fail
    go_ret
    exact ⟨by rw [HO.out]; rfl, HB.out⟩
set_option maxHeartbeats 4000000 in
set_option maxRecDepth 100000 in
theorem dev_good15 (e : EntN) (he : e.Len) (w : World) :
    Calls Tryd.prog 58 #[.agg (entV e)] w fun r w' => r = .returned (.bool (decide (GoodE e))) ∧ Below w.heap.size w w' := by
  have hx : Cells w.heap.size 35 (entV e) (w.alloc (.cells (entV e) 35)) := heap_alloc_new w _
  have hb : Below w.heap.size w (w.alloc (.cells (entV e) 35)) := (Below.refl _ _).alloc (Nat.le_refl _) _
  have HX := Lib.hid hx
  have HB := Lib.hid hb
  have HE := Lib.hid he
  have HSE := Lib.hid (sizeEV he.ok)
  have HSD := Lib.hid (show (Tryd.prog.info? 33).map (·.size) = some (draftL e.d).length by rw [draftL_len he.ok.ref.1]; exact Tryd.sizeD)
  clear hx hb he
  go_enter Tryd.func58, Tryd.ntmps58
  go_upto_region 1 with (fail)
  obtain ⟨w1, hw1⟩ : ∃ x, x = w.alloc (.cells (entV e) 35) := ⟨_, rfl⟩
  rw [← hw1] at HX HB ⊢
  clear hw1
  obtain ⟨c0, cd, cf, cq, cp, cm, cy, cs⟩ := ent_cells HE.out.ok HX.out
  have HBL := Lib.hid HX.out.lt
  have HCX := Lib.hid (fun (w' : World) (q : Below w1.heap.size w1 w') => HX.out.below q)
  have HCD := Lib.hid (fun (w' : World) (q : Below w1.heap.size w1 w') => rangeAt_belowI cd q HX.out.lt)
  have HCM := Lib.hid (fun (w' : World) (q : Below w1.heap.size w1 w') => (q.cell (p := ⟨w.heap.size, 70, none⟩) HX.out.lt).trans cm)
  have HCY := Lib.hid (fun (w' : World) (q : Below w1.heap.size w1 w') => (q.cell (p := ⟨w.heap.size, 71, none⟩) HX.out.lt).trans cy)
  have HCS := Lib.hid (fun (w' : World) (q : Below w1.heap.size w1 w') => (q.cell (p := ⟨w.heap.size, 72, none⟩) HX.out.lt).trans cs)
  obtain ⟨k, hk⟩ : ∃ x, e.kind = x := ⟨_, rfl⟩
  have HK := Shut.mk hk
  rw [hk] at c0
  clear cd cf cq cp cm cy cs hk
  by_cases h1 : k = 1
  · have g1 : (k == 1) = true := by simp [h1]
    have HGI := Shut.mk (goodE1 (HK.out.trans h1))
    have HLC := Lib.hid (fun w' => dev_local15 e.d HE.out.ok.ref w')
    have HGD := Lib.hid (fun w' => dev_goodDraft e.d HE.out.ok.ref HE.out.key HE.out.val w')
    obtain ⟨a, ha⟩ : ∃ b, decide (e = localE e.d) = b := ⟨_, rfl⟩
    obtain ⟨b, hb⟩ : ∃ b, decide (GoodD e.d) = b := ⟨_, rfl⟩
    have HEQ := Lib.hid (fun w' => eql_ent e (localE e.d) HE.out.ok (localE_ok HE.out.ok.ref) w')
    rw [ha] at HEQ
    rw [hb] at HGD
    have HZ := Shut.mk (show decide (GoodE e) = (a && b) by
      rw [← ha, ← hb, Bool.eq_iff_iff]
      simp only [decide_eq_true_eq, Bool.and_eq_true]
      exact HGI.out)
    clear ha hb HGI h1
    go_upto_region 3 with (fail)
    cases a
    all_goals
      refine wp_region_class (fun w' => Below w1.heap.size w1 w') (by kernel_rfl) (by kernel_rfl) (Below.refl _ _).drew ?_
      repeat (first
        | go_big_quiet_skip
        | (go_big_quiet_want; refine quiet_load_cells 35 _ rfl w.heap.size (entV e) 35 _ rfl HCX.out Tryd.underlying35 rfl HSE.out ?_; go_big_quiet_on; simp only [Act.put, List.setIfInBounds_toArray, List.set_cons_zero, List.set_cons_succ])
        | (go_big_quiet_want; refine quiet_load_row 33 _ rfl w.heap.size 1 (draftL e.d) _ rfl HCD.out Tryd.underlying33 rfl HSD.out ?_; go_big_quiet_on; simp only [Act.put, List.setIfInBounds_toArray, List.set_cons_zero, List.set_cons_succ])
        | (go_big_quiet_want; refine quiet_bin .eql 35 _ _ _ rfl (.agg (entV e)) (.agg (entV (localE e.d))) _ rfl rfl (guard_ent .eql (.inl rfl) _ _ _ _) HEQ.out ?_; go_big_quiet_on; simp only [Act.put, List.setIfInBounds_toArray, List.set_cons_zero, List.set_cons_succ])
        | go_big_quiet_step ((intro hs'; first
            | (go_at_call 90; exact (HLC.out _).mono fun e w' h => ⟨h.1, hs'.trans (h.2.mono hs'.size)⟩)
            | (go_at_call 91; exact (HGD.out _).mono fun e w' h => ⟨h.1, hs'.trans (h.2.mono hs'.size)⟩)
            | rfl)))
      refine wpQuiet_nil ?_
      intro w2 hs2
      have HB2 := Lib.hid (HB.out.trans (hs2.mono HB.out.size))
      clear hs2
      go_wp2_with fail
      go_ret
      exact ⟨by rw [HZ.out]; rfl, HB2.out⟩
  have g1 : (k == 1) = false := by simp [h1]
  by_cases h2 : k = 2
  · have g2 : (k == 2) = true := by simp [h2]
    have HGI := Shut.mk (goodE2 (HK.out.trans h2))
    have HOR := Lib.hid (fun w' => dev_origin15 e HE.out.ok w')
    have HCG := Lib.hid (fun w' => dev_cargo15 e HE.out.ok w')
    obtain ⟨sl, hsl⟩ : ∃ n, e.sig.length = n := ⟨_, rfl⟩
    obtain ⟨a, ha⟩ : ∃ b, decide (e.d = noD) = b := ⟨_, rfl⟩
    obtain ⟨b, hb⟩ : ∃ b, decide (OrigE e) = b := ⟨_, rfl⟩
    obtain ⟨c, hc⟩ : ∃ b, decide (OutE e) = b := ⟨_, rfl⟩
    obtain ⟨d, hd⟩ : ∃ b, decide ((sl : Int) ≤ 1024) = b := ⟨_, rfl⟩
    have HEQ := Lib.hid (fun w' => eql_draft e.d noD HE.out.ok.ref zeroI_ok w')
    rw [ha] at HEQ
    rw [hb] at HOR
    rw [hc] at HCG
    have HZ := Shut.mk (show decide (GoodE e) = (a && b && c && d) by
      rw [← ha, ← hb, ← hc, ← hd, ← hsl, Bool.eq_iff_iff]
      simp only [decide_eq_true_eq, Bool.and_eq_true]
      rw [HGI.out]
      constructor
      · rintro ⟨x, y, z, u⟩
        exact ⟨⟨⟨x, y⟩, z⟩, by omega⟩
      · rintro ⟨⟨⟨x, y⟩, z⟩, u⟩
        exact ⟨x, y, z, by omega⟩)
    have HBD := Lib.hid (show Tryd.prog.built 33 [] = some (draftV noD) from built_draft0)
    clear ha hb hc HGI h1 h2
    go_upto_region 5 with (fail)
    cases a with
    | false =>
      go_wp2_with (first
      | (refine wpList_load_mid rfl 33 _ rfl w.heap.size 1 rfl _ _ (HCD.out _ (Below.refl _ _)) Tryd.underlying33 rfl HSD.out ?_)
      | (refine wpList_build_val rfl 33 #[] rfl [] _ (by simp) HBD.out ?_)
      | (refine wpList_bin rfl .eql 33 _ _ _ rfl (.agg (draftV e.d)) (.agg (draftV noD)) _ rfl rfl (guard_draft _ _ _ _) HEQ.out ?_)
      | (refine wpList_load_cells_want (by rfl) 35 _ rfl w.heap.size (entV e) 35 _ rfl (HCX.out _ (Below.refl _ _)) Tryd.underlying35 rfl HSE.out ?_))
      go_ret
      exact ⟨by rw [HZ.out]; rfl, HB.out⟩
    | true =>
    go_wp2_with (first
      | (refine wpList_load_mid rfl 33 _ rfl w.heap.size 1 rfl _ _ (HCD.out _ (Below.refl _ _)) Tryd.underlying33 rfl HSD.out ?_)
      | (refine wpList_build_val rfl 33 #[] rfl [] _ (by simp) HBD.out ?_)
      | (refine wpList_bin rfl .eql 33 _ _ _ rfl (.agg (draftV e.d)) (.agg (draftV noD)) _ rfl rfl (guard_draft _ _ _ _) HEQ.out ?_)
      | (refine wpList_load_cells_want (by rfl) 35 _ rfl w.heap.size (entV e) 35 _ rfl (HCX.out _ (Below.refl _ _)) Tryd.underlying35 rfl HSE.out ?_))
    refine (HOR.out w1).mono ?_
    rintro r w2 ⟨rfl, hb⟩
    have HB2 := Lib.hid (hb.mono HB.out.size)
    have HBW := Lib.hid hb
    clear hb HOR
    cases b with
    | false =>
      go_wp2_with fail
      go_ret
      exact ⟨by rw [HZ.out]; rfl, HB.out.trans HB2.out⟩
    | true =>
    go_wp2_with (refine wpList_load_cells_want (by rfl) 35 _ rfl w.heap.size (entV e) 35 _ rfl (HCX.out _ HBW.out) Tryd.underlying35 rfl HSE.out ?_)
    refine (HCG.out w2).mono ?_
    rintro r w3 ⟨rfl, hb⟩
    have HB3 := Lib.hid (HBW.out.trans (hb.mono HBW.out.size))
    clear hb HBW HCG HB2
    have cs := HCS.out w3 HB3.out
    cases c with
    | false =>
      go_wp2_with fail
      go_ret
      exact ⟨by rw [HZ.out]; rfl, HB.out.trans (HB3.out.mono HB.out.size)⟩
    | true =>
    cases d with
    | false =>
      go_wp2_with fail
      go_ret
      exact ⟨by rw [HZ.out]; rfl, HB.out.trans (HB3.out.mono HB.out.size)⟩
    | true =>
      go_wp2_with fail
      go_ret
      exact ⟨by rw [HZ.out]; rfl, HB.out.trans (HB3.out.mono HB.out.size)⟩
  have g2 : (k == 2) = false := by simp [h2]
  by_cases h3 : k = 3
  · have g3 : (k == 3) = true := by simp [h3]
    have HGI := Shut.mk (goodE3 (HK.out.trans h3))
    have HLC := Lib.hid (fun w' => dev_send15 e.mask e.pay w')
    have HGD := Lib.hid (fun w' => dev_cargo15 e HE.out.ok w')
    obtain ⟨a, ha⟩ : ∃ b, decide (e = outE e.mask e.pay) = b := ⟨_, rfl⟩
    obtain ⟨b, hb⟩ : ∃ b, decide (OutE e) = b := ⟨_, rfl⟩
    have HEQ := Lib.hid (fun w' => eql_ent e (outE e.mask e.pay) HE.out.ok (outE_ok _ _) w')
    rw [ha] at HEQ
    rw [hb] at HGD
    have HZ := Shut.mk (show decide (GoodE e) = (a && b) by
      rw [← ha, ← hb, Bool.eq_iff_iff]
      simp only [decide_eq_true_eq, Bool.and_eq_true]
      exact HGI.out)
    clear ha hb HGI h1 h2 h3
    go_upto_region 7 with (fail)
    cases a
    all_goals
      refine wp_region_class (fun w' => Below w1.heap.size w1 w') (by kernel_rfl) (by kernel_rfl) (Below.refl _ _).drew ?_
      repeat (first
        | go_big_quiet_skip
        | (go_big_quiet_want; refine quiet_load_cells 35 _ rfl w.heap.size (entV e) 35 _ rfl HCX.out Tryd.underlying35 rfl HSE.out ?_; go_big_quiet_on; simp only [Act.put, List.setIfInBounds_toArray, List.set_cons_zero, List.set_cons_succ])
        | (go_big_quiet_want; refine quiet_load_cell 3 _ rfl ⟨w.heap.size, 70, none⟩ _ rfl HCM.out Tryd.isAgg3 ?_; go_big_quiet_on; simp only [Act.put, List.setIfInBounds_toArray, List.set_cons_zero, List.set_cons_succ])
        | (go_big_quiet_want; refine quiet_load_cell 9 _ rfl ⟨w.heap.size, 71, none⟩ _ rfl HCY.out Tryd.isAgg9 ?_; go_big_quiet_on; simp only [Act.put, List.setIfInBounds_toArray, List.set_cons_zero, List.set_cons_succ])
        | (go_big_quiet_want; refine quiet_bin .eql 35 _ _ _ rfl (.agg (entV e)) (.agg (entV (outE e.mask e.pay))) _ rfl rfl (guard_ent .eql (.inl rfl) _ _ _ _) HEQ.out ?_; go_big_quiet_on; simp only [Act.put, List.setIfInBounds_toArray, List.set_cons_zero, List.set_cons_succ])
        | go_big_quiet_step ((intro hs'; first
            | (go_at_call 94; exact (HLC.out _).mono fun e w' h => ⟨h.1, hs'.trans (h.2.mono hs'.size)⟩)
            | (go_at_call 93; exact (HGD.out _).mono fun e w' h => ⟨h.1, hs'.trans (h.2.mono hs'.size)⟩)
            | rfl)))
      refine wpQuiet_nil ?_
      intro w2 hs2
      have HB2 := Lib.hid (HB.out.trans (hs2.mono HB.out.size))
      clear hs2
      go_wp2_with fail
      go_ret
      exact ⟨by rw [HZ.out]; rfl, HB2.out⟩
  have g3 : (k == 3) = false := by simp [h3]
  have HZ := Shut.mk (show decide (GoodE e) = false from decide_eq_false (goodE0 (by rw [HK.out]; exact h1) (by rw [HK.out]; exact h2) (by rw [HK.out]; exact h3)))
  clear h1 h2 h3
  go_wp2_with fail
  go_ret
  exact ⟨by rw [HZ.out]; rfl, HB.out⟩
end Go.Proofs.YtpfhlhcnmeodbaaDoor
namespace Go.Proofs.YtpfhlhcnmeodbaaDoor
structure DraftN.Fit (d : DraftN) : Prop where
  ref : IdOk d.ref
  low : -9223372036854775808 ≤ d.kind
  high : d.kind ≤ 9223372036854775807
  key : d.key.length ≤ 512
  val : d.val.length ≤ 512
theorem GoodD.fit {d : DraftN} (h : GoodD d) (hr : IdOk d.ref) : d.Fit := by
  obtain ⟨h1, h2, _, h4, h5, _⟩ := h
  exact ⟨hr, by omega, by omega, by omega, by omega⟩
end Go.Proofs.YtpfhlhcnmeodbaaDoor
namespace Go.Proofs.YtpfhlhcnmeodbaaDoor
open Go.RowKit Go.BigFrame
theorem at_four9 (w : World) (p q r s : List UInt8) : StrsAt (some ⟨w.heap.size, 0, none⟩) [p, q, r, s] (w.alloc (.cells #[.string ⟨p.toArray⟩, .string ⟨q.toArray⟩, .string ⟨r.toArray⟩, .string ⟨s.toArray⟩] 9)) := by
  refine strsAt_own (B := w.heap.size) (c := 4) ?_
  exact World.ownsRow_lit (base := w.heap.size) (e := 9) (size := 1) w #[.string ⟨p.toArray⟩, .string ⟨q.toArray⟩, .string ⟨r.toArray⟩, .string ⟨s.toArray⟩] 4 (Nat.le_refl _) (by unfold maxLen; omega) rfl
theorem conv_mid {P : Program} {src dst e : TypeId} (hs : P.underlying src = some (.slice e)) (he : P.underlying e = some (.int .u8)) (hd : P.underlying dst = some .string) {g o c n : Nat} {l : List Nat} {w : World} (hn : n = l.length) (hl : ∀ x ∈ l, x < 256) (h : w.rangeAt g o (nums .u8 l)) :
    (convert src dst (.slice (some ⟨g, o, none⟩) n c)).run P w = .ok (.string ⟨(txt l).toArray⟩) w := by
  subst hn
  have h2 := run_convert_bytes_back (P := P) w src dst e ⟨g, o, none⟩ c (txt l) hs he hd (fun j hj => by
    rw [txt_len] at hj
    rw [Addr.add_mid, h j _ (by rw [nums, List.getElem?_map, List.getElem?_eq_getElem hj]; rfl)]
    have h1 := hl _ (List.getElem_mem hj)
    simp only [txt, List.getElem_map]
    rw [show (UInt8.ofNat l[j]).toNat = l[j] by simp; omega])
  rw [txt_len] at h2
  exact h2
theorem draftB_le9 {d : DraftN} (h : d.Fit) : (draftB d).length ≤ 1200 := draftB_le (by have := h.high; omega) h.key h.val h.ref.1
set_option maxHeartbeats 4000000 in
set_option maxRecDepth 100000 in
theorem dev_draftText (d : DraftN) (hd : d.Fit) (w : World) :
    Calls Tryd.prog 61 #[.agg (draftV d)] w fun e w' => e = .returned (.string ⟨(draftB d).toArray⟩) ∧ Below w.heap.size w w' := by
  have hx : Cells w.heap.size 33 (draftV d) (w.alloc (.cells (draftV d) 33)) := heap_alloc_new w _
  have hb : Below w.heap.size w (w.alloc (.cells (draftV d) 33)) := (Below.refl _ _).alloc (Nat.le_refl _) _
  have HX := Lib.hid hx
  have HB := Lib.hid hb
  have HD := Lib.hid hd
  have HLEN := Lib.hid (draftB_le9 hd)
  clear hx hb hd
  go_enter Tryd.func61, Tryd.ntmps61
  go_upto_region 1 with (fail)
  obtain ⟨w1, hw1⟩ : ∃ x, x = w.alloc (.cells (draftV d) 33) := ⟨_, rfl⟩
  rw [← hw1] at HX HB ⊢
  clear hw1
  obtain ⟨c0, c1, c2, c3⟩ := draft_cells HX.out
  have hg := HX.out.lt
  obtain ⟨k, hk⟩ : ∃ k, d.kind = k := ⟨_, rfl⟩
  have HK := Shut.mk hk
  rw [hk] at c0
  have HC0 := Lib.hid (fun (w' : World) (q : Below w1.heap.size w1 w') => (q.cell (p := ⟨w.heap.size, 0, none⟩) hg).trans c0)
  have HC1 := Lib.hid (fun (w' : World) (q : Below w1.heap.size w1 w') => (q.cell (p := ⟨w.heap.size, 1, none⟩) hg).trans c1)
  have HC2 := Lib.hid (fun (w' : World) (q : Below w1.heap.size w1 w') => (q.cell (p := ⟨w.heap.size, 2, none⟩) hg).trans c2)
  have HC3 := Lib.hid (fun (w' : World) (q : Below w1.heap.size w1 w') => conv_mid (P := Tryd.prog) (src := 73) (dst := 9) (c := 32) Tryd.underlying73 Tryd.underlying5 Tryd.underlying9 HD.out.ref.1.symm HD.out.ref.2 (rangeAt_belowI c3 q hg))
  have HN := Lib.hid (fun w' => num_int k w' (by have := HD.out.low; rw [hk] at this; exact this) (by have := HD.out.high; rw [hk] at this; exact this))
  clear c0 c1 c2 c3 hg hk
  refine wp_region_class_tail (fun w' => Below w1.heap.size w1 w') 10 (by kernel_rfl) (by kernel_rfl) (Below.refl _ _).drew ?_
  simp only [List.take_succ_cons, List.take_zero, List.drop_succ_cons, List.drop_zero]
  repeat (first
    | (go_big_quiet_want; refine quiet_load_cell 3 _ rfl ⟨w.heap.size, 0, none⟩ _ rfl HC0.out Tryd.isAgg3 ?_; go_big_quiet_on; simp only [Act.put, List.setIfInBounds_toArray, List.set_cons_zero, List.set_cons_succ])
    | (go_big_quiet_want; refine quiet_load_cell 9 _ rfl ⟨w.heap.size, 1, none⟩ _ rfl HC1.out Tryd.isAgg9 ?_; go_big_quiet_on; simp only [Act.put, List.setIfInBounds_toArray, List.set_cons_zero, List.set_cons_succ])
    | (go_big_quiet_want; refine quiet_load_cell 9 _ rfl ⟨w.heap.size, 2, none⟩ _ rfl HC2.out Tryd.isAgg9 ?_; go_big_quiet_on; simp only [Act.put, List.setIfInBounds_toArray, List.set_cons_zero, List.set_cons_succ])
    | (go_big_quiet_want; refine quiet_conv 73 9 _ rfl (.slice (some ⟨w.heap.size, 3, none⟩) 32 32) _ rfl HC3.out ?_; go_big_quiet_on; simp only [Act.put, List.setIfInBounds_toArray, List.set_cons_zero, List.set_cons_succ])
    | go_big_quiet_step ((intro hs'; first
        | (go_at_call 34; exact (HN.out _).mono fun e w' h => ⟨h.1, hs'.trans (h.2.mono hs'.size)⟩)
        | rfl)))
  refine wpQuiet_nil ?_
  intro w2 hs2
  have HB2 := Lib.hid (HB.out.trans (hs2.mono HB.out.size))
  clear hs2 HX HB HC0 HC1 HC2 HC3 HN
  go_wp2_with fail
  refine (list_any (some ⟨w2.heap.size, 0, none⟩) 4 [numB k.toNat, d.key, d.val, txt d.ref] _ (at_four9 w2 _ _ _ _) (by simp) (by have := HLEN.out; rw [draftB, HK.out] at this; omega)).mono ?_
  rintro e w3 ⟨rfl, hb⟩
  have HB3 := Lib.hid (HB2.out.trans (((Below.refl _ w2).alloc (Nat.le_refl _) _).trans (hb.mono (by simp)) |>.mono HB2.out.size))
  clear hb HB2
  go_wp2_with fail
  go_ret
  exact ⟨by rw [draftB, HK.out]; rfl, HB3.out⟩
end Go.Proofs.YtpfhlhcnmeodbaaDoor
namespace Go.Proofs.YtpfhlhcnmeodbaaDoor
open Go.RowKit Go.BigFrame
theorem at_row15 (w : World) (l : List (List UInt8)) (h : l.length ≤ 1000) : StrsAt (some ⟨w.heap.size, 0, none⟩) l (w.alloc (.cells (strs l).toArray 9)) := by
  refine strsAt_own (B := w.heap.size) (c := l.length) ?_
  exact World.ownsRow_lit (base := w.heap.size) (e := 9) (size := 1) w (strs l).toArray l.length (Nat.le_refl _) (by unfold maxLen; omega) (by rw [List.size_toArray, strs_length, Nat.mul_one])
set_option maxHeartbeats 4000000 in
set_option maxRecDepth 100000 in
theorem dev_text15 (e : EntN) (he : e.Len) (hq : e.seq < 9223372036854775808) (w : World) :
    Calls Tryd.prog 35 #[.agg (entV e)] w fun r w' => r = .returned (.string ⟨(entB e).toArray⟩) ∧ Below w.heap.size w w' := by
  have hx : Cells w.heap.size 35 (entV e) (w.alloc (.cells (entV e) 35)) := heap_alloc_new w _
  have hb : Below w.heap.size w (w.alloc (.cells (entV e) 35)) := (Below.refl _ _).alloc (Nat.le_refl _) _
  have HX := Lib.hid hx
  have HB := Lib.hid hb
  have HE := Lib.hid he
  have HGD := Lib.hid (fun w' => dev_good15 e he w')
  have HSE := Lib.hid (sizeEV he.ok)
  have HLE := Lib.hid (fun h : GoodE e => partsE_le h ⟨he.ok, hq⟩)
  have HQ := Lib.hid hq
  have HSD := Lib.hid (show (Tryd.prog.info? 33).map (·.size) = some (draftL e.d).length by rw [draftL_len he.ok.ref.1]; exact Tryd.sizeD)
  clear hx hb he hq
  obtain ⟨g, hg⟩ : ∃ b, decide (GoodE e) = b := ⟨_, rfl⟩
  have HG := Shut.mk hg
  rw [hg] at HGD
  clear hg
  go_enter Tryd.func35, Tryd.ntmps35
  go_upto_region 1 with (fail)
  obtain ⟨w1, hw1⟩ : ∃ x, x = w.alloc (.cells (entV e) 35) := ⟨_, rfl⟩
  rw [← hw1] at HX HB ⊢
  clear hw1
  go_wp2_with (refine wpList_load_cells rfl 35 _ rfl w.heap.size (entV e) 35 _ rfl HX.out Tryd.underlying35 rfl HSE.out ?_)
  refine (HGD.out w1).mono ?_
  rintro r w2 ⟨rfl, hb⟩
  have HX2 := Lib.hid (HX.out.below hb)
  have HB2 := Lib.hid (HB.out.trans (hb.mono HB.out.size))
  clear hb HGD HX HB
  cases g with
  | false =>
    have HZ := Shut.mk (entB_bad (of_decide_eq_false HG.out))
    go_wp2_with fail
    go_ret
    exact ⟨by rw [HZ.out]; rfl, HB2.out⟩
  | true =>
  have hgood := of_decide_eq_true HG.out
  have HZ := Shut.mk (entB_good hgood)
  have HGO := Lib.hid hgood
  have HLN := Lib.hid (HLE.out hgood)
  clear HLE HG
  obtain ⟨k, hk⟩ : ∃ k, e.kind = k := ⟨_, rfl⟩
  have HK := Shut.mk hk
  have HK3 := Lib.hid (show k = 1 ∨ k = 2 ∨ k = 3 by
    rw [← hk]
    rcases hgood with h | h | h
    · exact .inl h.1
    · exact .inr (.inl h.1)
    · exact .inr (.inr h.1))
  have c0 := (ent_cells HE.out.ok HX2.out).1
  rw [hk] at c0
  clear hk hgood
  go_wp2_with fail
  refine (num_int k w2 (by have := HK3.out; omega) (by have := HK3.out; omega)).mono ?_
  rintro r w3 ⟨rfl, hb⟩
  have HX3 := Lib.hid (HX2.out.below hb)
  have HB3 := Lib.hid (HB2.out.trans (hb.mono HB2.out.size))
  clear hb c0 HX2 HB2
  obtain ⟨c0, cd, cf, cq, cp, cm, cy, cs⟩ := ent_cells HE.out.ok HX3.out
  have HL3 := Lib.hid HX3.out.lt
  rw [HK.out] at c0
  obtain ⟨N1, hN1⟩ : ∃ x, numB k.toNat = x := ⟨_, rfl⟩
  have HN1 := Shut.mk hN1
  rw [hN1]
  clear hN1
  rcases HK3.out with h1 | h2 | h3
  · have g1 : (k == 1) = true := by simp [h1]
    have hgood := HGO.out
    have hk1 : e.kind = 1 := HK.out.trans h1
    have hd : GoodD e.d := ((goodE1 hk1).1 hgood).2
    have HP := Shut.mk (show partsE e = [N1, draftB e.d] by rw [partsE, if_pos hk1, ← HN1.out, h1]; rfl)
    have HDT := Lib.hid (fun w' => dev_draftText e.d (hd.fit HE.out.ok.ref) w')
    have HCD := Lib.hid cd
    rw [HP.out] at HZ HLN
    obtain ⟨DB, hDB⟩ : ∃ x, draftB e.d = x := ⟨_, rfl⟩
    rw [hDB] at HDT HZ HLN
    clear hk1 hd hDB HP hgood h1 cd cf cq cp cm cy cs
    go_wp2_with (refine wpList_load_mid rfl 33 _ rfl w.heap.size 1 rfl _ _ HCD.out Tryd.underlying33 rfl HSD.out ?_)
    refine (HDT.out w3).mono ?_
    rintro r w4 ⟨rfl, hb⟩
    have HB4 := Lib.hid (HB3.out.trans (hb.mono HB3.out.size))
    have HS := Lib.hid (at_row15 w4 [N1, DB] (by simp))
    clear hb c0 HCD HB3 HDT
    go_wp2_with fail
    refine (list_any (some ⟨w4.heap.size, 0, none⟩) 2 [N1, DB] _ HS.out (by simp) (by have := HLN.out; omega)).mono ?_
    rintro r w5 ⟨rfl, hb⟩
    have HB5 := Lib.hid (HB4.out.trans (((Below.refl _ w4).alloc (Nat.le_refl _) _).trans (hb.mono (by simp)) |>.mono HB4.out.size))
    clear hb HB4
    go_wp2_with fail
    go_ret
    exact ⟨by rw [HZ.out]; rfl, HB5.out⟩
  · have g1 : (k == 1) = false := by simp [h2]
    have g2 : (k == 2) = true := by simp [h2]
    have hgood := HGO.out
    have hk1 : e.kind = 2 := HK.out.trans h2
    obtain ⟨hd, ⟨h4, h5, h6⟩, ⟨h7, h8, h9⟩, h10⟩ := (goodE2 hk1).1 hgood
    obtain ⟨a, ha⟩ : ∃ x, e.src = x := ⟨_, rfl⟩
    obtain ⟨b, hbb⟩ : ∃ x, e.seq = x := ⟨_, rfl⟩
    obtain ⟨m, hm⟩ : ∃ x, e.mask = x := ⟨_, rfl⟩
    have HP := Shut.mk (show partsE e = [N1, numB a.toNat, numB b.toNat, txt e.prev, numB m.toNat, e.pay, e.sig] by
      rw [partsE, if_neg (by omega), if_pos hk1, ← HN1.out, ha, hbb, hm, h2]
      rfl)
    rw [HP.out] at HZ HLN
    rw [ha] at cf
    rw [hbb] at cq
    rw [hm] at cm
    have HC2 := Lib.hid (fun (w' : World) (q : Below w3.heap.size w3 w') => (q.cell (p := ⟨w.heap.size, 36, none⟩) HL3.out).trans cf)
    have HC3 := Lib.hid (fun (w' : World) (q : Below w3.heap.size w3 w') => (q.cell (p := ⟨w.heap.size, 37, none⟩) HL3.out).trans cq)
    have HC4 := Lib.hid (fun (w' : World) (q : Below w3.heap.size w3 w') => conv_mid (P := Tryd.prog) (src := 73) (dst := 9) (c := 32) Tryd.underlying73 Tryd.underlying5 Tryd.underlying9 HE.out.ok.prev.1.symm HE.out.ok.prev.2 (rangeAt_belowI cp q HL3.out))
    have HC5 := Lib.hid (fun (w' : World) (q : Below w3.heap.size w3 w') => (q.cell (p := ⟨w.heap.size, 70, none⟩) HL3.out).trans cm)
    have HC6 := Lib.hid (fun (w' : World) (q : Below w3.heap.size w3 w') => (q.cell (p := ⟨w.heap.size, 71, none⟩) HL3.out).trans cy)
    have HC7 := Lib.hid (fun (w' : World) (q : Below w3.heap.size w3 w') => (q.cell (p := ⟨w.heap.size, 72, none⟩) HL3.out).trans cs)
    have HNA := Lib.hid (fun w' => num_int a w' (by omega) (by omega))
    have HNB := Lib.hid (fun w' => num_int b w' (by omega) (by have := HQ.out; omega))
    have HNM := Lib.hid (fun w' => num_int m w' (by omega) (by omega))
    obtain ⟨PV, hPV⟩ : ∃ x, txt e.prev = x := ⟨_, rfl⟩
    rw [hPV] at HC4 HZ HLN
    clear hk1 HP hgood cd cf cq cp cm cy cs ha hbb hm hPV hd h4 h5 h6 h7 h8 h9 h10 h2
    go_upto_region 8 with (fail)
    refine wp_region_class_tail (fun w' => Below w3.heap.size w3 w') 17 (by kernel_rfl) (by kernel_rfl) (Below.refl _ _).drew ?_
    simp only [List.take_succ_cons, List.take_zero, List.drop_succ_cons, List.drop_zero]
    repeat (first
      | (go_big_quiet_want; refine quiet_load_cell 3 _ rfl ⟨w.heap.size, 36, none⟩ _ rfl HC2.out Tryd.isAgg3 ?_; go_big_quiet_on; simp only [Act.put, List.setIfInBounds_toArray, List.set_cons_zero, List.set_cons_succ])
      | (go_big_quiet_want; refine quiet_load_cell 3 _ rfl ⟨w.heap.size, 37, none⟩ _ rfl HC3.out Tryd.isAgg3 ?_; go_big_quiet_on; simp only [Act.put, List.setIfInBounds_toArray, List.set_cons_zero, List.set_cons_succ])
      | (go_big_quiet_want; refine quiet_load_cell 3 _ rfl ⟨w.heap.size, 70, none⟩ _ rfl HC5.out Tryd.isAgg3 ?_; go_big_quiet_on; simp only [Act.put, List.setIfInBounds_toArray, List.set_cons_zero, List.set_cons_succ])
      | (go_big_quiet_want; refine quiet_load_cell 9 _ rfl ⟨w.heap.size, 71, none⟩ _ rfl HC6.out Tryd.isAgg9 ?_; go_big_quiet_on; simp only [Act.put, List.setIfInBounds_toArray, List.set_cons_zero, List.set_cons_succ])
      | (go_big_quiet_want; refine quiet_load_cell 9 _ rfl ⟨w.heap.size, 72, none⟩ _ rfl HC7.out Tryd.isAgg9 ?_; go_big_quiet_on; simp only [Act.put, List.setIfInBounds_toArray, List.set_cons_zero, List.set_cons_succ])
      | (go_big_quiet_want; refine quiet_conv 73 9 _ rfl (.slice (some ⟨w.heap.size, 38, none⟩) 32 32) _ rfl HC4.out ?_; go_big_quiet_on; simp only [Act.put, List.setIfInBounds_toArray, List.set_cons_zero, List.set_cons_succ])
      | go_big_quiet_step ((intro hs'; first
          | (go_at_call_of 34 (Value.int .i64 a); exact (HNA.out _).mono fun e w' h => ⟨h.1, hs'.trans (h.2.mono hs'.size)⟩)
          | (go_at_call_of 34 (Value.int .i64 b); exact (HNB.out _).mono fun e w' h => ⟨h.1, hs'.trans (h.2.mono hs'.size)⟩)
          | (go_at_call_of 34 (Value.int .i64 m); exact (HNM.out _).mono fun e w' h => ⟨h.1, hs'.trans (h.2.mono hs'.size)⟩)
          | rfl)))
    refine wpQuiet_nil ?_
    intro w4 hs4
    have HB4 := Lib.hid (HB3.out.trans (hs4.mono HB3.out.size))
    clear hs4 HC2 HC3 HC4 HC5 HC6 HC7 HNA HNB HNM HB3
    have HS := Lib.hid (at_row15 w4 [N1, numB a.toNat, numB b.toNat, PV, numB m.toNat, e.pay, e.sig] (by simp))
    go_wp2_with fail
    refine (list_any (some ⟨w4.heap.size, 0, none⟩) 7 [N1, numB a.toNat, numB b.toNat, PV, numB m.toNat, e.pay, e.sig] _ HS.out (by simp) (by have := HLN.out; omega)).mono ?_
    rintro r w5 ⟨rfl, hb⟩
    have HB5 := Lib.hid (HB4.out.trans (((Below.refl _ w4).alloc (Nat.le_refl _) _).trans (hb.mono (by simp)) |>.mono HB4.out.size))
    clear hb HB4
    go_wp2_with fail
    go_ret
    exact ⟨by rw [HZ.out]; rfl, HB5.out⟩
  · have g1 : (k == 1) = false := by simp [h3]
    have g2 : (k == 2) = false := by simp [h3]
    have hgood := HGO.out
    have hk1 : e.kind = 3 := HK.out.trans h3
    obtain ⟨-, h7, h8, h9⟩ := (goodE3 hk1).1 hgood
    obtain ⟨m, hm⟩ : ∃ x, e.mask = x := ⟨_, rfl⟩
    have HP := Shut.mk (show partsE e = [N1, numB m.toNat, e.pay] by
      rw [partsE, if_neg (by omega), if_neg (by omega), ← HN1.out, hm, h3]
      rfl)
    rw [HP.out] at HZ HLN
    rw [hm] at cm
    have HC5 := Lib.hid (fun (w' : World) (q : Below w3.heap.size w3 w') => (q.cell (p := ⟨w.heap.size, 70, none⟩) HL3.out).trans cm)
    have HC6 := Lib.hid (fun (w' : World) (q : Below w3.heap.size w3 w') => (q.cell (p := ⟨w.heap.size, 71, none⟩) HL3.out).trans cy)
    have HNM := Lib.hid (fun w' => num_int m w' (by omega) (by omega))
    clear hk1 HP hgood cd cf cq cp cm cy cs hm h7 h8 h9 h3
    go_upto_region 9 with (fail)
    refine wp_region_class_tail (fun w' => Below w3.heap.size w3 w') 6 (by kernel_rfl) (by kernel_rfl) (Below.refl _ _).drew ?_
    simp only [List.take_succ_cons, List.take_zero, List.drop_succ_cons, List.drop_zero]
    repeat (first
      | (go_big_quiet_want; refine quiet_load_cell 3 _ rfl ⟨w.heap.size, 70, none⟩ _ rfl HC5.out Tryd.isAgg3 ?_; go_big_quiet_on; simp only [Act.put, List.setIfInBounds_toArray, List.set_cons_zero, List.set_cons_succ])
      | (go_big_quiet_want; refine quiet_load_cell 9 _ rfl ⟨w.heap.size, 71, none⟩ _ rfl HC6.out Tryd.isAgg9 ?_; go_big_quiet_on; simp only [Act.put, List.setIfInBounds_toArray, List.set_cons_zero, List.set_cons_succ])
      | go_big_quiet_step ((intro hs'; first
          | (go_at_call_of 34 (Value.int .i64 m); exact (HNM.out _).mono fun e w' h => ⟨h.1, hs'.trans (h.2.mono hs'.size)⟩)
          | rfl)))
    refine wpQuiet_nil ?_
    intro w4 hs4
    have HB4 := Lib.hid (HB3.out.trans (hs4.mono HB3.out.size))
    clear hs4 HC5 HC6 HNM HB3
    have HS := Lib.hid (at_row15 w4 [N1, numB m.toNat, e.pay] (by simp))
    go_wp2_with fail
    refine (list_any (some ⟨w4.heap.size, 0, none⟩) 3 [N1, numB m.toNat, e.pay] _ HS.out (by simp) (by have := HLN.out; omega)).mono ?_
    rintro r w5 ⟨rfl, hb⟩
    have HB5 := Lib.hid (HB4.out.trans (((Below.refl _ w4).alloc (Nat.le_refl _) _).trans (hb.mono (by simp)) |>.mono HB4.out.size))
    clear hb HB4
    go_wp2_with fail
    go_ret
    exact ⟨by rw [HZ.out]; rfl, HB5.out⟩
end Go.Proofs.YtpfhlhcnmeodbaaDoor
namespace Go.Proofs.YtpfhlhcnmeodbaaDoor
open Go.RowKit Go.BigFrame
theorem dev_index16 (i : Int) (w : World) (h0 : 1 ≤ i) (h1 : i ≤ 9223372036854775807) :
    Calls Tryd.prog 46 #[.int .i64 i] w fun r w' => r = .returned (.int .i64 (i - 1)) ∧ Below w.heap.size w w' := by
  go_enter Tryd.func46, Tryd.ntmps46
  go_wp2_with fail
  go_ret
  exact ⟨by go_num, Below.refl _ _⟩
set_option maxHeartbeats 4000000 in
set_option maxRecDepth 100000 in
theorem dev_link16 (p : List Nat) (i : Int) (e : EntN) (hp : IdOk p) (h0 : -9223372036854775808 ≤ i) (hi : i ≤ 9223372036854775807) (he : e.Len) (hq : e.seq < 9223372036854775808) (w : World) (hk : KAt w) :
    Calls Tryd.prog 12 #[.agg (nums .u8 p).toArray, .int .i64 i, .agg (entV e)] w fun r w' => r = .returned (.agg (nums .u8 (linkN p i e)).toArray) ∧ Below w.heap.size w w' := by
  have hx1 : Cells w.heap.size 24 (nums .u8 p).toArray (((w.alloc (.cells (nums .u8 p).toArray 24)).alloc (.cells (entV e) 35)).alloc (.cells (nums .u8 zeroI).toArray 24)) := (Cells.alloc (heap_alloc_new w _) _).alloc _
  have hx2 : Cells (w.heap.size + 1) 35 (entV e) (((w.alloc (.cells (nums .u8 p).toArray 24)).alloc (.cells (entV e) 35)).alloc (.cells (nums .u8 zeroI).toArray 24)) := by
    have h := heap_alloc_new (w.alloc (.cells (nums .u8 p).toArray 24)) (.cells (entV e) 35)
    rw [World.size_alloc] at h
    exact Cells.alloc h _
  have hx3 : Cells (w.heap.size + 2) 24 (nums .u8 zeroI).toArray (((w.alloc (.cells (nums .u8 p).toArray 24)).alloc (.cells (entV e) 35)).alloc (.cells (nums .u8 zeroI).toArray 24)) := by
    have h := heap_alloc_new ((w.alloc (.cells (nums .u8 p).toArray 24)).alloc (.cells (entV e) 35)) (.cells (nums .u8 zeroI).toArray 24)
    rw [World.size_alloc, World.size_alloc] at h
    exact h
  have hb : Below w.heap.size w (((w.alloc (.cells (nums .u8 p).toArray 24)).alloc (.cells (entV e) 35)).alloc (.cells (nums .u8 zeroI).toArray 24)) := (((Below.refl _ _).alloc (Nat.le_refl _) _).alloc (by rw [World.size_alloc]; exact Nat.le_succ _) _).alloc (by rw [World.size_alloc, World.size_alloc]; omega) _
  have HX1 := Lib.hid hx1
  have HX2 := Lib.hid hx2
  have HX3 := Lib.hid hx3
  have HB := Lib.hid hb
  have HK1 := Lib.hid (hk.below hb)
  have HP := Lib.hid hp
  have HLEN := Lib.hid (linkT_len hp hi (e := e) ⟨he.ok, hq⟩)
  have HT := Lib.hid (fun w' => dev_text15 e he hq w')
  have HN := Lib.hid (fun w' => num_int i w' h0 hi)
  have HSE := Lib.hid (sizeEV he.ok)
  clear hx1 hx2 hx3 hb he hq hp hk
  go_enter Tryd.func12, Tryd.ntmps12
  go_upto_region 1 with (fail)
  change Code.wp _ _ _ _ (((w.alloc (.cells (nums .u8 p).toArray 24)).alloc (.cells (entV e) 35)).alloc (.cells (nums .u8 zeroI).toArray 24))
  obtain ⟨w1, hw1⟩ : ∃ x, x = (((w.alloc (.cells (nums .u8 p).toArray 24)).alloc (.cells (entV e) 35)).alloc (.cells (nums .u8 zeroI).toArray 24)) := ⟨_, rfl⟩
  rw [← hw1] at HX1 HX2 HX3 HB HK1 ⊢
  clear hw1
  have HC3 := Lib.hid (fun (w' : World) (q : SS w1 w') => conv_mid (P := Tryd.prog) (src := 73) (dst := 9) (c := 32) Tryd.underlying73 Tryd.underlying5 Tryd.underlying9 HP.out.1.symm HP.out.2 (rangeAt_belowI (cells_range HX1.out) q.1 HX1.out.lt))
  have HC4 := Lib.hid (fun (w' : World) (q : SS w1 w') => HX2.out.below q.1)
  refine wp_region_class_tail (SS w1) 6 (by kernel_rfl) (by kernel_rfl) (SS.start HK1.out) ?_
  simp only [List.take_succ_cons, List.take_zero, List.drop_succ_cons, List.drop_zero]
  repeat (first
    | (go_big_quiet_want; refine quiet_conv 73 9 _ rfl (.slice (some ⟨w.heap.size, 0, none⟩) 32 32) _ rfl HC3.out ?_; go_big_quiet_on; simp only [Act.put, List.setIfInBounds_toArray, List.set_cons_zero, List.set_cons_succ])
    | (go_big_quiet_want; refine quiet_load_cells 35 _ rfl (w.heap.size + 1) (entV e) 35 _ rfl HC4.out Tryd.underlying35 rfl HSE.out ?_; go_big_quiet_on; simp only [Act.put, List.setIfInBounds_toArray, List.set_cons_zero, List.set_cons_succ])
    | go_big_quiet_step ((intro hs'; first
        | (go_at_call 34; exact (HN.out _).mono fun e w' h => ⟨h.1, hs'.next h.2⟩)
        | (go_at_call 35; exact (HT.out _).mono fun e w' h => ⟨h.1, hs'.next h.2⟩)
        | rfl)))
  refine wpQuiet_nil ?_
  intro w2 hs2
  have HB2 := Lib.hid (HB.out.trans (hs2.1.mono HB.out.size))
  have HX3b := Lib.hid (HX3.out.below hs2.1)
  have HK2 := Lib.hid hs2.2
  clear hs2 HX1 HX2 HX3 HB HK1 HC3 HC4 HN HT
  have HSM := Lib.hid (dev_sum [108, 105, 110, 107] (some ⟨w2.heap.size, 0, none⟩) 3 [txt p, numB i.toNat, entB e] _ (at_three w2 _ _ _) (fun h => by cases h) (by simp) (by have := HLEN.out; rw [linkT] at this; omega) (HK2.out.below ((Below.refl _ _).alloc (Nat.le_refl _) _)))
  rw [show shaN (listB [[108, 105, 110, 107], txt p, numB i.toNat, entB e]) = linkN p i e from rfl] at HSM
  have hU0 := (linkN_ok p i e).1
  obtain ⟨U, hU⟩ : ∃ U, linkN p i e = U := ⟨_, rfl⟩
  have HUE := Shut.mk hU
  rw [hU] at hU0 HSM
  have HI := Lib.hid (show (Tryd.prog.info? 24).map (·.size) = some U.length by rw [hU0]; exact Tryd.sizeI)
  have HL2 := Lib.hid (show zeroI.length = U.length by rw [hU0]; rfl)
  clear hU hU0
  go_wp2_with fail
  refine HSM.out.mono ?_
  rintro r w3 ⟨rfl, hb3⟩
  have hb : Below w2.heap.size w2 w3 := ((Below.refl _ w2).alloc (Nat.le_refl _) _).trans (hb3.mono (by simp))
  have HX3c := Lib.hid (HX3b.out.below hb)
  have HB3 := Lib.hid (HB2.out.trans (hb.mono HB2.out.size))
  clear hb hb3 HX3b HB2 HK2 HSM
  go_wp2_with (refine wpList_store_nums rfl 24 _ _ rfl rfl (w.heap.size + 2) .u8 zeroI U 24 rfl rfl HX3c.out HI.out HL2.out ?_)
  intro w7 hc' hb'
  have HC7 := Lib.hid (show Blk (w.heap.size + 2) 24 .u8 U w7 from hc'.out)
  have HB7 := Lib.hid (show Below w.heap.size w w7 from But.toBelow HB3.out hb'.out (by omega) HB3.out.size)
  clear hc' hb'
  go_wp2_with fail
  exact bodyPost_ret (results_nums rfl _ _ (w.heap.size + 2) .u8 _ 24 _ rfl HC7.out Tryd.underlying24 rfl HI.out) rfl ⟨by rw [HUE.out], HB7.out⟩
set_option maxHeartbeats 4000000 in
set_option maxRecDepth 100000 in
theorem dev_word16 (n i : Int) (h : List Nat) (n0 : -9223372036854775808 ≤ n) (hn : n ≤ 9223372036854775807) (i0 : -9223372036854775808 ≤ i) (hi : i ≤ 9223372036854775807) (hh : IdOk h) (w : World) :
    Calls Tryd.prog 17 #[.int .i64 n, .int .i64 i, .agg (nums .u8 h).toArray] w fun r w' => r = .returned (.string ⟨(wordB n i h).toArray⟩) ∧ Below w.heap.size w w' := by
  have hx1 : Cells w.heap.size 24 (nums .u8 h).toArray (w.alloc (.cells (nums .u8 h).toArray 24)) := heap_alloc_new w _
  have HX1 := Lib.hid hx1
  have HB := Lib.hid (show Below w.heap.size w (w.alloc (.cells (nums .u8 h).toArray 24)) from (Below.refl _ _).alloc (Nat.le_refl _) _)
  have HH := Lib.hid hh
  have HLEN := Lib.hid (wordB_len hn hi hh)
  have HN := Lib.hid (fun w' => num_int n w' n0 hn)
  have HI := Lib.hid (fun w' => num_int i w' i0 hi)
  clear hx1 hh
  go_enter Tryd.func17, Tryd.ntmps17
  go_upto_region 1 with (fail)
  obtain ⟨w1, hw1⟩ : ∃ x, x = w.alloc (.cells (nums .u8 h).toArray 24) := ⟨_, rfl⟩
  rw [← hw1] at HX1 HB ⊢
  clear hw1
  have HC3 := Lib.hid (fun (w' : World) (q : Below w1.heap.size w1 w') => conv_mid (P := Tryd.prog) (src := 73) (dst := 9) (c := 32) Tryd.underlying73 Tryd.underlying5 Tryd.underlying9 HH.out.1.symm HH.out.2 (rangeAt_belowI (cells_range HX1.out) q HX1.out.lt))
  refine wp_region_class_tail (fun w' => Below w1.heap.size w1 w') 6 (by kernel_rfl) (by kernel_rfl) (Below.refl _ _).drew ?_
  simp only [List.take_succ_cons, List.take_zero, List.drop_succ_cons, List.drop_zero]
  repeat (first
    | (go_big_quiet_want; refine quiet_conv 73 9 _ rfl (.slice (some ⟨w.heap.size, 0, none⟩) 32 32) _ rfl HC3.out ?_; go_big_quiet_on; simp only [Act.put, List.setIfInBounds_toArray, List.set_cons_zero, List.set_cons_succ])
    | go_big_quiet_step ((intro hs'; first
        | (go_at_call_of 34 (Value.int .i64 n); exact (HN.out _).mono fun e w' h => ⟨h.1, hs'.trans (h.2.mono hs'.size)⟩)
        | (go_at_call_of 34 (Value.int .i64 i); exact (HI.out _).mono fun e w' h => ⟨h.1, hs'.trans (h.2.mono hs'.size)⟩)
        | rfl)))
  refine wpQuiet_nil ?_
  intro w2 hs2
  have HB2 := Lib.hid (HB.out.trans (hs2.mono HB.out.size))
  clear hs2 HX1 HB HC3 HN HI
  go_wp2_with fail
  refine (list_any (some ⟨w2.heap.size, 0, none⟩) 4 [[119, 111, 114, 100], numB n.toNat, numB i.toNat, txt h] _ (at_four9 w2 _ _ _ _) (by simp) (by have := HLEN.out; rw [wordB] at this; omega)).mono ?_
  rintro e w3 ⟨rfl, hb⟩
  have HB3 := Lib.hid (HB2.out.trans (((Below.refl _ w2).alloc (Nat.le_refl _) _).trans (hb.mono (by simp)) |>.mono HB2.out.size))
  clear hb HB2
  go_wp2_with fail
  go_ret
  exact ⟨rfl, HB3.out⟩
end Go.Proofs.YtpfhlhcnmeodbaaDoor
namespace Go.Proofs.YtpfhlhcnmeodbaaDoor
open Go.RowKit Go.BigFrame
theorem noA_okL : IdOk noA.hash := zeroI_ok
theorem zeroAuL : (Tryd.prog.info? 26).bind (·.zero) = some (.agg (autL noA).toArray) := by kernel_rfl
section
variable {N : Nat} {O : Nat → Prop} {v : Value} {nd : Int} {seed : List UInt8} {h : Nat} {L : List EntN}
set_option maxHeartbeats 4000000 in
set_option maxRecDepth 100000 in
theorem dev_authNone (q : Int) (w : World) (l : LogIs N O v nd seed h L w) (hq : q < 1 ∨ (L.length : Int) < q) :
    Calls Tryd.prog 29 #[v, .int .i64 q] w fun e w' => e = .returned (.tuple #[.agg (autV noA), .int .i64 5]) ∧ Below w.heap.size w w' := by
  have hx : Cells w.heap.size 26 (autV noA) (w.alloc (.cells (autV noA) 26)) := heap_alloc_new w _
  have hb : Below w.heap.size w (w.alloc (.cells (autV noA) 26)) := (Below.refl _ _).alloc (Nat.le_refl _) _
  have HH := Lib.hid (dev_has q _ (l.below hb))
  rw [decide_eq_false (show ¬ (1 ≤ q ∧ q ≤ (L.length : Int)) by omega)] at HH
  obtain ⟨a, rfl⟩ := l.ptr
  have HX := Lib.hid hx
  have HB := Lib.hid hb
  have HS := Lib.hid (sizeAV noA_okL)
  clear hx hb l hq
  go_enter Tryd.func29, Tryd.ntmps29
  go_upto_region 1 with (first | (refine wpList_alloc_of rfl 26 rfl (autL noA) zeroAuL ?_))
  change Code.wp _ _ _ _ (w.alloc (.cells (autV noA) 26))
  obtain ⟨w1, hw1⟩ : ∃ x, x = w.alloc (.cells (autV noA) 26) := ⟨_, rfl⟩
  rw [← hw1] at HX HB HH ⊢
  clear hw1
  go_wp2_with fail
  refine HH.out.mono ?_
  rintro r w2 ⟨rfl, hb⟩
  have HX2 := Lib.hid (HX.out.below hb)
  have HB2 := Lib.hid (HB.out.trans (hb.mono HB.out.size))
  clear hb HX HB HH
  go_wp2_with (first
    | (refine wpList_build_val rfl 26 #[] rfl [] _ (by simp) built_aut0 ?_)
    | (refine wpList_store_cells rfl 26 _ _ rfl rfl w.heap.size (autV noA) (autV noA) 26 rfl rfl HX2.out HS.out rfl (autV_all noA) ?_))
  intro w3 hc hb
  have HXF := Lib.hid hc.out
  have HBF := Lib.hid (show Below w.heap.size w w3 from But.toBelow HB2.out hb.out (Nat.le_refl _) HB2.out.size)
  clear hc hb
  go_wp2_with fail
  refine bodyPost_ret (results_cells_tmp rfl _ _ w.heap.size (autV noA) 26 _ _ rfl rfl HXF.out Tryd.underlying26 rfl HS.out) rfl ?_
  exact ⟨rfl, HBF.out⟩
end
end Go.Proofs.YtpfhlhcnmeodbaaDoor
namespace Go.Proofs.YtpfhlhcnmeodbaaDoor
open Go.RowKit Go.BigFrame
def Vals (q : Nat → Bool) (V : Nat → Value) (L : List (Nat × Value)) : Prop := ∀ n v, q n = true → L.lookup n = some v → V n = v
section
variable {q : Nat → Bool} {V : Nat → Value} {L : List (Nat × Value)} {i n : Nat} {v u : Value}
theorem Vals.none : Vals (fun _ => false) V L := fun _ _ h => by cases h
theorem Vals.set (h : Vals q V L) (hl : L.lookup i = some v) : Vals (fun j => q j || j == i) (upd V i v) L := fun n x hn hx => by
  by_cases e : n = i
  · subst e
    rw [upd_same]
    exact Option.some.inj (hl.symm.trans hx)
  · rw [upd_ne V v e]
    exact h n x (seen_ne e hn) hx
theorem Vals.off (h : Vals q V L) (hl : L.lookup i = Option.none) : Vals (fun j => q j || j == i) (upd V i u) L := fun n x hn hx => by
  by_cases e : n = i
  · subst e
    rw [hl] at hx
    cases hx
  · rw [upd_ne V u e]
    exact h n x (seen_ne e hn) hx
theorem Vals.get (h : Vals q V L) (n : Nat) (hq : q n = true) (hl : L.lookup n = some v) : V n = v := h n v hq hl
end
example (q : Nat → Bool) (V : Nat → Value) (a b c : Value) (h : Vals q V [(0, a), (1, b), (2, .bool true), (5, c)]) (hq : ∀ i, i < 6 → q i = true) (K : Value → (Nat → Bool) → (Nat → Value) → Prop) (hK : ∀ v, Vals (fun j => q j || j == 5) (upd V 5 v) [(0, a), (1, b), (2, .bool true), (5, c)] ∧ True → K v q V) : K c q V ∧ V 1 = b := by
  refine ⟨hK _ ⟨h.set rfl, trivial⟩, ?_⟩
  have v1 := h.get 1 (hq 1 (by decide)) rfl
  have v2 := h.get 2 (hq 2 (by decide)) rfl
  have v5 := h.get 5 (hq 5 (by decide)) rfl
  exact v1
example (q : Nat → Bool) (V : Nat → Value) (a b c : Value) (h : Vals q V [(0, a), (1, b), (2, .bool true), (5, c)]) (u : Value) : Vals (fun j => q j || j == 3) (upd V 3 u) [(0, a), (1, b), (2, .bool true), (5, c)] := h.off rfl
end Go.Proofs.YtpfhlhcnmeodbaaDoor
namespace Go.Proofs.YtpfhlhcnmeodbaaDoor
open Go.RowKit
theorem op_of_list {P : Program} {ops : Array Oper} {o : Oper} {a : Act} {w : World} {K : Act → World → Prop} {Q : Exit → Act → World → Prop} (hg : o.guard = none)
    (h : wpList P ops (fun e a w => e = Exit.normal ∧ K a w) [o] a w) : OpWp P o a w K Q := by
  refine ⟨?_⟩
  unfold wpList at h
  simp only [Region.wanted, hg, if_true] at h
  rcases h with h | ⟨_, a', w', h, _⟩
  · unfold Oper.wp at *
    generalize (execOp a.eval o).run P w = r at *
    cases r with
    | ok n w' =>
      cases n <;> simp only [Oper.upon] at h ⊢ <;> first
        | exact h.2
        | exact Rows.mono h (fun _ _ he => he.2)
        | (refine Calls.mono h (fun e w'' he => ?_)
           cases e with
           | returned v => exact he.2
           | panicked c => cases he.1
           | outgrown =>
             obtain ⟨_, _, h0, _⟩ := he
             cases h0)
    | halt x w' =>
      cases x <;> simp only [Oper.upon] at h ⊢
      cases h.1
  · cases h
structure Chain (c : List Nat) (A : World → Prop) (M : Nat → Value → World → Prop) (s : Nat → Bool) (V : Nat → Value) (w : World) : Prop where
  always : A w
  now : ∃ m, m ≤ c.length ∧ (∀ p, p < c.length → s (c.getD p 0) = decide (p < m)) ∧ M m (V (c.getD (m - 1) 0)) w
section
variable {c : List Nat} {A : World → Prop} {M : Nat → Value → World → Prop} {s : Nat → Bool} {V : Nat → Value} {w w' : World}
theorem Chain.none (hA : A w) (hM : ∀ v, M 0 v w) : Chain c A M (fun _ => false) V w := ⟨hA, 0, Nat.zero_le _, fun _ _ => rfl, hM _⟩
theorem getD_ne {c : List Nat} {k p : Nat} (hc : k ∉ c) (hp : p < c.length) : c.getD p 0 ≠ k := fun h => hc (by
  rw [List.getD_eq_getElem?_getD, List.getElem?_eq_getElem hp] at h
  rw [← h]
  exact List.getElem_mem hp)
theorem Chain.ne {k : Nat} {v : Value} (h : Chain c A M s V w) (hc : k ∉ c) (h0 : 0 < c.length) : Chain c A M (fun n => s n || n == k) (upd V k v) w := by
  obtain ⟨hA, m, hm, hs, hM⟩ := h
  refine ⟨hA, m, hm, fun p hp => ?_, ?_⟩
  · have := getD_ne hc hp
    show (s (c.getD p 0) || c.getD p 0 == k) = _
    rw [← hs p hp, beq_false_of_ne this, Bool.or_false]
  · rw [upd_ne V v (getD_ne hc (by omega))]
    exact hM
theorem Chain.at (h : Chain c A M s V w) (p : Nat) (hp : p < c.length) (hu : s (c.getD p 0) = false) (hd : p = 0 ∨ s (c.getD (p - 1) 0) = true) : M p (V (c.getD (p - 1) 0)) w := by
  obtain ⟨_, m, hm, hs, hM⟩ := h
  have h1 := hs p hp
  rw [hu] at h1
  have h1 : ¬ p < m := of_decide_eq_false h1.symm
  have h2 : p ≤ m := by
    rcases hd with rfl | hd
    · exact Nat.zero_le _
    · have h3 := hs (p - 1) (by omega)
      rw [hd] at h3
      have := of_decide_eq_true h3.symm
      omega
  obtain rfl : m = p := by omega
  exact hM
theorem Chain.step {v : Value} (h : Chain c A M s V w) (p : Nat) (hp : p < c.length) (hn : ∀ q, q < c.length → q ≠ p → c.getD q 0 ≠ c.getD p 0) (hu : s (c.getD p 0) = false) (hd : p = 0 ∨ s (c.getD (p - 1) 0) = true) (hA : A w') (hM : M (p + 1) v w') :
    Chain c A M (fun n => s n || n == c.getD p 0) (upd V (c.getD p 0) v) w' := by
  obtain ⟨_, m, hm, hs, _⟩ := h
  have h1 := hs p hp
  rw [hu] at h1
  have h1 : ¬ p < m := of_decide_eq_false h1.symm
  have h2 : p ≤ m := by
    rcases hd with rfl | hd
    · exact Nat.zero_le _
    · have h3 := hs (p - 1) (by omega)
      rw [hd] at h3
      have := of_decide_eq_true h3.symm
      omega
  obtain rfl : m = p := by omega
  refine ⟨hA, m + 1, by omega, fun q hq => ?_, ?_⟩
  · show (s (c.getD q 0) || c.getD q 0 == c.getD m 0) = _
    rw [hs q hq]
    by_cases hqm : q = m
    · subst hqm
      simp
    · have hne : c.getD q 0 ≠ c.getD m 0 := hn q hq hqm
      have e1 : (c.getD q 0 == c.getD m 0) = false := beq_false_of_ne hne
      rw [e1, Bool.or_false]
      exact decide_eq_decide.2 (by omega)
  · rw [Nat.add_sub_cancel, upd_same]
    exact hM
theorem Chain.fin (h : Chain c A M s V w) (hall : ∀ p, p < c.length → s (c.getD p 0) = true) : M c.length (V (c.getD (c.length - 1) 0)) w := by
  obtain ⟨_, m, hm, hs, hM⟩ := h
  by_cases h0 : m < c.length
  · have := hs m h0
    rw [hall m h0] at this
    exact absurd (of_decide_eq_true this.symm) (by omega)
  · obtain rfl : m = c.length := by omega
    exact hM
end
end Go.Proofs.YtpfhlhcnmeodbaaDoor
namespace Go.Proofs.YtpfhlhcnmeodbaaDoor
open Go.RowKit Go.BigFrame
theorem lead_set {p : List Nat} {i : Int} {L : List EntN} {n k : Nat} {y : EntN} (hn : L.length = n) (hy : L[k]? = some y) (h : k < n) :
    (leadN p i (L.take k) ++ List.replicate (n - k) (List.replicate 32 0)).set k (linkN (endN p i (L.take k)) (i + k) y) = leadN p i (L.take (k + 1)) ++ List.replicate (n - (k + 1)) (List.replicate 32 0) := by
  have hlk : (L.take k).length = k := by rw [List.length_take, hn]; omega
  have h1 : L[k]'(by omega) = y := by
    rw [List.getElem?_eq_getElem (by omega)] at hy
    exact Option.some.inj hy
  have hl : (leadN p i (L.take k)).length = k := by rw [leadN_len, hlk]
  rw [List.take_succ_eq_append_getElem (by omega), h1, leadN_snoc, hlk, List.set_append_right _ _ (by omega), hl, Nat.sub_self, show n - k = (n - (k + 1)) + 1 by omega, List.replicate_succ, List.set_cons_zero, List.append_assoc]
  rfl
set_option maxHeartbeats 4000000 in
set_option maxRecDepth 100000 in
theorem dev_walk16 (p : List Nat) (i : Int) (ao : Option Addr) (L : List EntN) (c : Nat) (w : World) (hp : IdOk p) (h0 : -9223372036854775808 ≤ i) (hi : i + L.length ≤ 9223372036854775807) (hL : ∀ x ∈ L, x.Len ∧ x.seq < 9223372036854775808) (hn : L.length ≤ 1000000) (hat : EntsAt ao L w) (hk : KAt w) :
    Calls Tryd.prog 10 #[.agg (nums .u8 p).toArray, .int .i64 i, .slice ao L.length c] w fun r w' => RowI w.heap.size (leadN p i L) r w' ∧ Below w.heap.size w w' := by
  have HX1 := Lib.hid (show Cells w.heap.size 24 (nums .u8 p).toArray (w.alloc (.cells (nums .u8 p).toArray 24)) from heap_alloc_new w _)
  have HB := Lib.hid (show Below w.heap.size w (w.alloc (.cells (nums .u8 p).toArray 24)) from (Below.refl _ _).alloc (Nat.le_refl _) _)
  have HP := Lib.hid hat
  have HLL := Lib.hid hL
  have HPK := Lib.hid hp
  have HKK := Lib.hid hk
  obtain ⟨i0, hi0, hz0, hz1, hz2⟩ := info_parts Tryd.infoI32
  have HIF := Lib.hid hi0
  have HZ0 := Lib.hid hz0
  have HZ1 := Lib.hid hz1
  have HZ2 := Lib.hid hz2
  obtain ⟨n, hnn⟩ : ∃ n, L.length = n := ⟨_, rfl⟩
  have HN := Shut.mk hnn
  rw [hnn] at hn hi ⊢
  have HZE := Lib.hid (show (Tryd.prog.info? 35).bind (·.zero) = some (.agg (entL noE).toArray) by kernel_rfl)
  clear hat hL hnn hp hk hi0 hz0 hz1 hz2
  go_enter Tryd.func10, Tryd.ntmps10
  go_upto_region 1 with (fail)
  obtain ⟨w1, hw1⟩ : ∃ x, x = w.alloc (.cells (nums .u8 p).toArray 24) := ⟨_, rfl⟩
  rw [← hw1] at HX1 HB ⊢
  have HS1 := Lib.hid (show w1.heap.size = w.heap.size + 1 by rw [hw1, World.size_alloc])
  clear hw1
  go_wp2_with (at_make; refine wpList_make_full _ rfl _ _ 29 rfl w1.heap.size 24 i0 _ 32 Tryd.underlying29 HIF.out HZ0.out HZ1.out .i64 .i64 _ _ n rfl rfl rfl rfl (by rw [HZ2.out]; omega) (by unfold maxLen; omega) (Nat.le_refl _) ?_)
  intro w2 ho2 hg2
  have HO2 := Lib.hid (OwnI.made ho2)
  have hb2 := (Below.refl w1.heap.size w1).grown hg2 (Nat.le_refl _) (fun k hk => by cases hk)
  have HX2 := Lib.hid (HX1.out.below hb2)
  have HB2 := Lib.hid (HB.out.trans (hb2.mono HB.out.size))
  obtain ⟨gr, hgr⟩ : ∃ g, w1.heap.size = g := ⟨_, rfl⟩
  have HGR := Lib.hid (show gr = w.heap.size + 1 by rw [← hgr, HS1.out])
  rw [hgr] at HO2 ⊢
  clear ho2 hg2 hb2 hgr HX1 HB HS1
  go_wp2_with fail
  go_loopw [15] (fun j wr => ∃ k : Nat, k ≤ n ∧ j = .int .i64 k ∧ OwnI gr 24 (.slice (some ⟨gr, 0, none⟩) n n) (leadN p i (L.take k) ++ List.replicate (n - k) (List.replicate 32 0)) wr ∧ Cells w.heap.size 24 (nums .u8 (endN p i (L.take k))).toArray wr ∧ Below w.heap.size w wr) (fun j _ => n - (intOf j).toNat)
  case atStart => exact ⟨0, Nat.zero_le _, rfl, HO2.out, HX2.out, HB2.out⟩
  case round =>
    clear HO2 HX2 HB2
    obtain ⟨k, hk, rfl, ho, hc, hb⟩ := hrel
    have HO := Lib.hid ho
    have HC := Lib.hid hc
    have HBW := Lib.hid hb
    have HPW := Lib.hid (HP.out.below hb)
    have HKW := Lib.hid (HKK.out.below hb)
    clear hb ho hc
    by_cases hkn : k < n
    · obtain ⟨y, hy⟩ : ∃ y, L[k]? = some y := ⟨_, List.getElem?_eq_getElem (by rw [HN.out]; exact hkn)⟩
      have htk : L.take (k + 1) = L.take k ++ [y] := by
        have h1 : L[k]'(by rw [HN.out]; exact hkn) = y := by
          rw [List.getElem?_eq_getElem (by rw [HN.out]; exact hkn)] at hy
          exact Option.some.inj hy
        rw [List.take_succ_eq_append_getElem (by rw [HN.out]; exact hkn), h1]
      have hlk : (L.take k).length = k := by rw [List.length_take, HN.out]; omega
      have HTE := Shut.mk (show endN p i (L.take (k + 1)) = linkN (endN p i (L.take k)) (i + k) y by rw [htk, endN_snoc, hlk])
      have HTL := Shut.mk (lead_set (p := p) (i := i) HN.out hy hkn)
      have HY := Lib.hid (HLL.out y (List.mem_of_getElem? hy))
      have HLI := Lib.hid (show Ids (leadN p i (L.take k) ++ List.replicate (n - k) (List.replicate 32 0)) from Ids.append (fun x hx => leadN_ok _ _ _ x hx) (Ids.zeros _))
      have HLN := Lib.hid (show n = (leadN p i (L.take k) ++ List.replicate (n - k) (List.replicate 32 0)).length by rw [List.length_append, leadN_len, hlk, List.length_replicate]; omega)
      obtain ⟨b, ob, rfl, hbl, hr⟩ := HPW.out.getM hy
      have HR := Lib.hid hr
      have HSL := Lib.hid (sizeEL HY.out.1.ok)
      have HSV := Lib.hid (sizeEV HY.out.1.ok)
      have HEK := Lib.hid (endN_ok HPK.out (L.take k) i)
      obtain ⟨M, hM⟩ : ∃ M, leadN p i (L.take k) ++ List.replicate (n - k) (List.replicate 32 0) = M := ⟨_, rfl⟩
      obtain ⟨E, hE⟩ : ∃ E, endN p i (L.take k) = E := ⟨_, rfl⟩
      rw [hM] at HO HTL HLI HLN
      rw [hE] at HC HTE HTL HEK
      clear hy hbl hr hM hE htk hlk
      have HSE := Lib.hid (show (Tryd.prog.info? 24).map (·.size) = some E.length by rw [HEK.out.1]; exact Tryd.sizeI)
      obtain ⟨U, hU⟩ : ∃ U, linkN E (i + k) y = U := ⟨_, rfl⟩
      have HUK := Lib.hid (show IdOk U by rw [← hU]; exact linkN_ok _ _ _)
      have HSU := Lib.hid (show (Tryd.prog.info? 24).map (·.size) = some U.length by rw [HUK.out.1]; exact Tryd.sizeI)
      have HLK := Lib.hid (fun w' hk => dev_link16 E (i + k) y HEK.out (by omega) (by omega) HY.out.1 HY.out.2 w' hk)
      rw [hU] at HTE HTL HLK
      clear hU
      go_wp2_with (first
        | (refine wpList_load_mid rfl 35 _ rfl b (ob + k * 73) rfl _ _ HR.out Tryd.underlying35 rfl HSL.out ?_)
        | (refine wpList_alloc_of rfl 35 rfl (entL noE) HZE.out ?_)
        | (refine wpList_store_cells rfl 35 _ _ rfl rfl wr.heap.size (entV noE) (entV y) 35 rfl rfl (heap_alloc_new wr _) HSV.out (by rw [entV_size HY.out.1.ok]; rfl) (entV_all y) ?_))
      intro w4 hc hb
      have hb4 : Below wr.heap.size wr w4 := But.toBelow ((Below.refl _ wr).alloc (Nat.le_refl _) _) hb.out (Nat.le_refl _) (by rw [World.size_alloc]; exact Nat.le_succ _)
      have HC4 := Lib.hid hc.out
      have HB4 := Lib.hid (HBW.out.trans (hb4.mono HBW.out.size))
      have HO4 := Lib.hid (HO.out.below hb4)
      have HP4 := Lib.hid (HC.out.below hb4)
      have HK4 := Lib.hid (HKW.out.below hb4)
      obtain ⟨g5, hg5⟩ : ∃ g, wr.heap.size = g := ⟨_, rfl⟩
      rw [hg5] at HC4 ⊢
      clear hc hb hb4 hg5 HO HR HSL HC HKW
      go_wp2_with (first
        | (refine wpList_load_nums rfl 24 _ rfl w.heap.size .u8 E 24 _ rfl HP4.out Tryd.underlying24 rfl HSE.out ?_)
        | (refine wpList_load_cells rfl 35 _ rfl g5 (entV y) 35 _ rfl HC4.out Tryd.underlying35 rfl HSV.out ?_))
      refine (HLK.out w4 HK4.out).mono ?_
      rintro r w5 ⟨rfl, hb⟩
      have HB5 := Lib.hid (HB4.out.trans (hb.mono HB4.out.size))
      have HO5 := Lib.hid (HO4.out.below hb)
      have HP5 := Lib.hid (HP4.out.below hb)
      clear hb HB4 HO4 HP4 HC4 HK4
      go_wp2_with (first
        | (refine wpList_store_nums rfl 24 _ _ rfl rfl w.heap.size .u8 E U 24 rfl rfl HP5.out HSU.out (by rw [HEK.out.1, HUK.out.1]) ?_))
      intro w6 hc6 hb6
      have HP6 := Lib.hid hc6.out
      have HB6 := Lib.hid (show Below w.heap.size w w6 from But.toBelow HB5.out hb6.out (Nat.le_refl _) HB5.out.size)
      have HO6 := Lib.hid (HO5.out.but hb6.out (fun g hg => by have := (World.ownsRow.lt HO5.out g hg).1; have := HGR.out; omega))
      clear hc6 hb6 HP5 HB5 HO5
      go_wp2_with (first
        | (refine wpList_load_nums rfl 24 _ rfl w.heap.size .u8 U 24 _ rfl HP6.out Tryd.underlying24 rfl HSU.out ?_)
        | (refine wpList_store_id rfl 24 _ _ rfl rfl gr gr n n k (k * 32) 24 _ U HLN.out (Nat.mul_comm _ _) rfl rfl HO6.out HLI.out hkn HUK.out.1 HUK.out.2 Tryd.sizeI ?_))
      intro w7 ho7 hb7
      have HO7 := Lib.hid (HTL.out ▸ ho7.out)
      have HB7 := Lib.hid (show Below w.heap.size w w7 from But.toBelow HB6.out hb7.out (by rw [HGR.out]; exact Nat.le_succ _) HB6.out.size)
      have HP7 := Lib.hid (show Cells w.heap.size 24 (nums .u8 U).toArray w7 from (hb7.out.block w.heap.size HP6.out.lt (by have := HGR.out; omega)).trans HP6.out)
      clear ho7 hb7 HO6 HP6 HB6
      go_wp2_with fail
      exact ⟨⟨k + 1, by omega, by go_num, HO7.out, by rw [HTE.out]; exact HP7.out, HB7.out⟩, by simp [intOf]; omega⟩
    · obtain rfl : k = n := by omega
      have HM := Shut.mk (show leadN p i (L.take k) ++ List.replicate (k - k) (List.replicate 32 0) = leadN p i L by rw [Nat.sub_self, List.replicate_zero, List.append_nil, List.take_of_length_le (by rw [HN.out]; exact Nat.le_refl _)])
      rw [HM.out] at HO
      go_wp2_with fail
      go_ret
      exact ⟨⟨_, rfl, HO.out.mono (by rw [HGR.out]; exact Nat.le_succ _)⟩, HBW.out⟩
end Go.Proofs.YtpfhlhcnmeodbaaDoor
namespace Go.Proofs.YtpfhlhcnmeodbaaDoor
open Go.RowKit Go.BigFrame
theorem rat_cells {K : Nat} (hK : 0 < K) {ad : Addr} {D : List (List Value)} {w : World} (h : RAt K (some ad) D w) (hD : Wide K D) : ∀ j u, D.flatten[j]? = some u → w.cell? (ad.add j) = some u := by
  intro j u hj
  rcases h with rfl | ⟨b, o, h1, h2, h3⟩
  · cases hj
  · cases h1
    have hlt := (List.getElem?_eq_some_iff.1 hj).1
    rw [flat_len hD] at hlt
    obtain ⟨q, m, rfl, hm⟩ : ∃ q m, j = K * q + m ∧ m < K := ⟨j / K, j % K, (Nat.div_add_mod j K).symm, Nat.mod_lt _ hK⟩
    have hq : q < D.length := by
      refine Classical.byContradiction fun hc => ?_
      have h4 : D.length * K ≤ K * q := by rw [Nat.mul_comm]; exact Nat.mul_le_mul_left K (by omega)
      omega
    rw [flat_get hD hq hm, List.getD_eq_getElem?_getD, List.getElem?_eq_getElem hq] at hj
    rw [Addr.add_mid, ← Nat.add_assoc, Nat.mul_comm K q]
    exact h3 q _ (List.getElem?_eq_getElem hq) m u hj
theorem wpList_append_rowsv {P : Program} {w : World} {ops : Array Oper} {rest : List Oper} {o : Oper} {a : Act} {Q : Exit → Act → World → Prop} (hgd : o.guard = none) (s x : Operand) (t e : TypeId)
    (ho : o.op = .call { callee := .builtin .append, args := #[s, x], argTypes := #[t, t] })
    (B K bytes : Nat) (z : Value) (hzs : z.cells.size = K) (hK : 0 < K) (hby : bytes ≤ 1024) (ht : P.underlying t = some (.slice e)) (hinfo : (P.info? e).map (fun i => (i.zero, i.size, i.bytes)) = some (some z, K, bytes))
    (v : Value) (C D : List (List Value)) (hD : Wide K D) (hu : ∀ y ∈ D.flatten, y.oneCell' = true) (ao : Option Addr) (n c : Nat) (hn : n = D.length) (hs : a.eval s = v) (hown : OwnR B K e v C w) (hx : a.eval x = .slice ao n c) (hsrc : RAt K ao D w) (hnil : ao = none → c = 0)
    (h63 : C.length + D.length ≤ 1000000) (hB : B ≤ w.heap.size)
    (h : ∀ v' w', Hid (OwnR B K e v' (C ++ D) w') → Hid (w.grownBy w' v.ownBlock) → Hid (v'.ownBlock = v.ownBlock ∨ v'.ownBlock = some w.heap.size) → wpList P ops Q rest (a.put o.dst v') w') : wpList P ops Q (o :: rest) a w := by
  obtain ⟨i, hi, hz0, hz1, hz2⟩ := info_parts hinfo
  cases ao with
  | none =>
    obtain rfl := hnil rfl
    have hm : D = [] := by
      rcases hsrc with h | ⟨b, o', h, _⟩
      · exact h
      · cases h
    subst hm
    subst hn
    refine wpList_append_own_none hgd s x _ ho B e i K ht hi v C.length C.flatten hs hown hx (h _ _ ?_ ⟨rfl, rfl, rfl, Nat.le_refl _, fun _ _ _ => rfl⟩ (.inl rfl))
    rw [List.append_nil]
    exact hown
  | some ad =>
    subst hn
    refine wpList_append_own_at w hgd s x _ ho B e i z K bytes ht hi hz0 hz1 hz2 hzs hK v C.length C.flatten hs hown ad D.length c D.flatten hx (flat_len hD) (rat_cells hK hsrc hD) hu (by unfold maxLen; omega) (Nat.le_trans (Nat.mul_le_mul h63 hby) (by decide)) hB ?_
    intro v' w' h2 hg _ h3
    refine h v' w' ?_ hg h3
    show w'.ownsRow B e K v' (C ++ D).length (C ++ D).flatten
    rw [List.length_append, List.flatten_append]
    exact h2
end Go.Proofs.YtpfhlhcnmeodbaaDoor
namespace Go.Proofs.YtpfhlhcnmeodbaaDoor
open Go.RowKit Go.BigFrame
theorem flat_one {D : List EntN} : ∀ y ∈ (D.map entL).flatten, y.oneCell' = true := fun y hy => by
  obtain ⟨c, hc, hy⟩ := List.mem_flatten.1 hy
  obtain ⟨e, _, rfl⟩ := List.mem_map.1 hc
  exact entL_one e y hy
end Go.Proofs.YtpfhlhcnmeodbaaDoor
