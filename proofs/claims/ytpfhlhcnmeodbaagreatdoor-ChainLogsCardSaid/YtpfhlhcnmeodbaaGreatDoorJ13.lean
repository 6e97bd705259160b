/-
  Joined: The developers' Walk of layer 16.; The developers' log: Append. Written by chain/gen/gen_app.py.; The developers' log: Auth of a place that is there. Written by chain/gen/gen_aus.py.; The developers' log: At, Hash; nil ones.; What the laws of layer 16 ask first: alive, great.; A log of the developers' and one of the document's, side by side; how the law makes them.; The document's Same of layer 15.
-/
import Derived.OwnWalk
import Derived.Test.YtpfhlhcnmeodbaaGreatDoorJ06
import Derived.Test.YtpfhlhcnmeodbaaGreatDoorJ07
import Derived.Test.YtpfhlhcnmeodbaaGreatDoorJ08
import Derived.Test.YtpfhlhcnmeodbaaGreatDoorJ11
import Derived.Test.YtpfhlhcnmeodbaaGreatDoorJ12
namespace Go.Proofs.YtpfhlhcnmeodbaaGreatDoor
open Go.RowKit Go.BigFrame
theorem lead_set {p : List Nat} {i : Int} {L : List EntN} {n k : Nat} {y : EntN} (hn : L.length = n) (hy : L[k]? = some y) (h : k < n) :
    (leadN p i (L.take k) ++ List.replicate (n - k) (List.replicate 32 0)).set k (linkN (endN p i (L.take k)) (i + k) y) = leadN p i (L.take (k + 1)) ++ List.replicate (n - (k + 1)) (List.replicate 32 0) := by
  have hlk : (L.take k).length = k := by rw [List.length_take, hn]; omega
  have h1 : L[k]'(by omega) = y := by
    rw [List.getElem?_eq_getElem (by omega)] at hy
    exact Option.some.inj hy
  have hl : (leadN p i (L.take k)).length = k := by rw [leadN_len, hlk]
  rw [List.take_succ_eq_append_getElem (by omega), h1, leadN_snoc, hlk, List.set_append_right _ _ (by omega), hl, Nat.sub_self, show n - k = (n - (k + 1)) + 1 by omega, List.replicate_succ, List.set_cons_zero, List.append_assoc]
  rfl
set_option maxHeartbeats 4000000 in
set_option maxRecDepth 100000 in
theorem dev_walk16 (p : List Nat) (i : Int) (ao : Option Addr) (L : List EntN) (c : Nat) (w : World) (hp : IdOk p) (h0 : -9223372036854775808 ≤ i) (hi : i + L.length ≤ 9223372036854775807) (hL : ∀ x ∈ L, x.Len ∧ x.seq < 9223372036854775808) (hn : L.length ≤ 1000000) (hat : EntsAt ao L w) (hk : KAt w) :
    Calls Tryz.prog 33 #[.agg (nums .u8 p).toArray, .int .i64 i, .slice ao L.length c] w fun r w' => RowI w.heap.size (leadN p i L) r w' ∧ Below w.heap.size w w' := by
  have HX1 := Lib.hid (show Cells w.heap.size 43 (nums .u8 p).toArray (w.alloc (.cells (nums .u8 p).toArray 43)) from heap_alloc_new w _)
  have HB := Lib.hid (show Below w.heap.size w (w.alloc (.cells (nums .u8 p).toArray 43)) from (Below.refl _ _).alloc (Nat.le_refl _) _)
  have HP := Lib.hid hat
  have HLL := Lib.hid hL
  have HPK := Lib.hid hp
  have HKK := Lib.hid hk
  obtain ⟨i0, hi0, hz0, hz1, hz2⟩ := info_parts Tryz.infoI32
  have HIF := Lib.hid hi0
  have HZ0 := Lib.hid hz0
  have HZ1 := Lib.hid hz1
  have HZ2 := Lib.hid hz2
  obtain ⟨n, hnn⟩ : ∃ n, L.length = n := ⟨_, rfl⟩
  have HN := Shut.mk hnn
  rw [hnn] at hn hi ⊢
  have HZE := Lib.hid (show (Tryz.prog.info? 54).bind (·.zero) = some (.agg (entL noE).toArray) by kernel_rfl)
  clear hat hL hnn hp hk hi0 hz0 hz1 hz2
  go_enter Tryz.func33, Tryz.ntmps33
  go_upto_region 1 with (fail)
  obtain ⟨w1, hw1⟩ : ∃ x, x = w.alloc (.cells (nums .u8 p).toArray 43) := ⟨_, rfl⟩
  rw [← hw1] at HX1 HB ⊢
  have HS1 := Lib.hid (show w1.heap.size = w.heap.size + 1 by rw [hw1, World.size_alloc])
  clear hw1
  go_wp2_with (at_make; refine wpList_make_full _ rfl _ _ 76 rfl w1.heap.size 43 i0 _ 32 Tryz.underlying76 HIF.out HZ0.out HZ1.out .i64 .i64 _ _ n rfl rfl rfl rfl (by rw [HZ2.out]; omega) (by unfold maxLen; omega) (Nat.le_refl _) ?_)
  intro w2 ho2 hg2
  have HO2 := Lib.hid (OwnI.made ho2)
  have hb2 := (Below.refl w1.heap.size w1).grown hg2 (Nat.le_refl _) (fun k hk => by cases hk)
  have HX2 := Lib.hid (HX1.out.below hb2)
  have HB2 := Lib.hid (HB.out.trans (hb2.mono HB.out.size))
  obtain ⟨gr, hgr⟩ : ∃ g, w1.heap.size = g := ⟨_, rfl⟩
  have HGR := Lib.hid (show gr = w.heap.size + 1 by rw [← hgr, HS1.out])
  rw [hgr] at HO2 ⊢
  clear ho2 hg2 hb2 hgr HX1 HB HS1
  go_wp2_with fail
  go_loopw [15] (fun j wr => ∃ k : Nat, k ≤ n ∧ j = .int .i64 k ∧ OwnI gr 43 (.slice (some ⟨gr, 0, none⟩) n n) (leadN p i (L.take k) ++ List.replicate (n - k) (List.replicate 32 0)) wr ∧ Cells w.heap.size 43 (nums .u8 (endN p i (L.take k))).toArray wr ∧ Below w.heap.size w wr) (fun j _ => n - (intOf j).toNat)
  case atStart => exact ⟨0, Nat.zero_le _, rfl, HO2.out, HX2.out, HB2.out⟩
  case round =>
    clear HO2 HX2 HB2
    obtain ⟨k, hk, rfl, ho, hc, hb⟩ := hrel
    have HO := Lib.hid ho
    have HC := Lib.hid hc
    have HBW := Lib.hid hb
    have HPW := Lib.hid (HP.out.below hb)
    have HKW := Lib.hid (HKK.out.below hb)
    clear hb ho hc
    by_cases hkn : k < n
    · obtain ⟨y, hy⟩ : ∃ y, L[k]? = some y := ⟨_, List.getElem?_eq_getElem (by rw [HN.out]; exact hkn)⟩
      have htk : L.take (k + 1) = L.take k ++ [y] := by
        have h1 : L[k]'(by rw [HN.out]; exact hkn) = y := by
          rw [List.getElem?_eq_getElem (by rw [HN.out]; exact hkn)] at hy
          exact Option.some.inj hy
        rw [List.take_succ_eq_append_getElem (by rw [HN.out]; exact hkn), h1]
      have hlk : (L.take k).length = k := by rw [List.length_take, HN.out]; omega
      have HTE := Shut.mk (show endN p i (L.take (k + 1)) = linkN (endN p i (L.take k)) (i + k) y by rw [htk, endN_snoc, hlk])
      have HTL := Shut.mk (lead_set (p := p) (i := i) HN.out hy hkn)
      have HY := Lib.hid (HLL.out y (List.mem_of_getElem? hy))
      have HLI := Lib.hid (show Ids (leadN p i (L.take k) ++ List.replicate (n - k) (List.replicate 32 0)) from Ids.append (fun x hx => leadN_ok _ _ _ x hx) (Ids.zeros _))
      have HLN := Lib.hid (show n = (leadN p i (L.take k) ++ List.replicate (n - k) (List.replicate 32 0)).length by rw [List.length_append, leadN_len, hlk, List.length_replicate]; omega)
      obtain ⟨b, ob, rfl, hbl, hr⟩ := HPW.out.getM hy
      have HR := Lib.hid hr
      have HSL := Lib.hid (sizeEL HY.out.1.ok)
      have HSV := Lib.hid (sizeEV HY.out.1.ok)
      have HEK := Lib.hid (endN_ok HPK.out (L.take k) i)
      obtain ⟨M, hM⟩ : ∃ M, leadN p i (L.take k) ++ List.replicate (n - k) (List.replicate 32 0) = M := ⟨_, rfl⟩
      obtain ⟨E, hE⟩ : ∃ E, endN p i (L.take k) = E := ⟨_, rfl⟩
      rw [hM] at HO HTL HLI HLN
      rw [hE] at HC HTE HTL HEK
      clear hy hbl hr hM hE htk hlk
      have HSE := Lib.hid (show (Tryz.prog.info? 43).map (·.size) = some E.length by rw [HEK.out.1]; exact Tryz.sizeI)
      obtain ⟨U, hU⟩ : ∃ U, linkN E (i + k) y = U := ⟨_, rfl⟩
      have HUK := Lib.hid (show IdOk U by rw [← hU]; exact linkN_ok _ _ _)
      have HSU := Lib.hid (show (Tryz.prog.info? 43).map (·.size) = some U.length by rw [HUK.out.1]; exact Tryz.sizeI)
      have HLK := Lib.hid (fun w' hk => dev_link16 E (i + k) y HEK.out (by omega) (by omega) HY.out.1 HY.out.2 w' hk)
      rw [hU] at HTE HTL HLK
      clear hU
      go_wp2_with (first
        | (refine wpList_load_mid rfl 54 _ rfl b (ob + k * 73) rfl _ _ HR.out Tryz.underlying54 rfl HSL.out ?_)
        | (refine wpList_alloc_of rfl 54 rfl (entL noE) HZE.out ?_)
        | (refine wpList_store_cells rfl 54 _ _ rfl rfl wr.heap.size (entV noE) (entV y) 54 rfl rfl (heap_alloc_new wr _) HSV.out (by rw [entV_size HY.out.1.ok]; rfl) (entV_all y) ?_))
      intro w4 hc hb
      have hb4 : Below wr.heap.size wr w4 := But.toBelow ((Below.refl _ wr).alloc (Nat.le_refl _) _) hb.out (Nat.le_refl _) (by rw [World.size_alloc]; exact Nat.le_succ _)
      have HC4 := Lib.hid hc.out
      have HB4 := Lib.hid (HBW.out.trans (hb4.mono HBW.out.size))
      have HO4 := Lib.hid (HO.out.below hb4)
      have HP4 := Lib.hid (HC.out.below hb4)
      have HK4 := Lib.hid (HKW.out.below hb4)
      obtain ⟨g5, hg5⟩ : ∃ g, wr.heap.size = g := ⟨_, rfl⟩
      rw [hg5] at HC4 ⊢
      clear hc hb hb4 hg5 HO HR HSL HC HKW
      go_wp2_with (first
        | (refine wpList_load_nums rfl 43 _ rfl w.heap.size .u8 E 43 _ rfl HP4.out Tryz.underlying43 rfl HSE.out ?_)
        | (refine wpList_load_cells rfl 54 _ rfl g5 (entV y) 54 _ rfl HC4.out Tryz.underlying54 rfl HSV.out ?_))
      refine (HLK.out w4 HK4.out).mono ?_
      rintro r w5 ⟨rfl, hb⟩
      have HB5 := Lib.hid (HB4.out.trans (hb.mono HB4.out.size))
      have HO5 := Lib.hid (HO4.out.below hb)
      have HP5 := Lib.hid (HP4.out.below hb)
      clear hb HB4 HO4 HP4 HC4 HK4
      go_wp2_with (first
        | (refine wpList_store_nums rfl 43 _ _ rfl rfl w.heap.size .u8 E U 43 rfl rfl HP5.out HSU.out (by rw [HEK.out.1, HUK.out.1]) ?_))
      intro w6 hc6 hb6
      have HP6 := Lib.hid hc6.out
      have HB6 := Lib.hid (show Below w.heap.size w w6 from But.toBelow HB5.out hb6.out (Nat.le_refl _) HB5.out.size)
      have HO6 := Lib.hid (HO5.out.but hb6.out (fun g hg => by have := (World.ownsRow.lt HO5.out g hg).1; have := HGR.out; omega))
      clear hc6 hb6 HP5 HB5 HO5
      go_wp2_with (first
        | (refine wpList_load_nums rfl 43 _ rfl w.heap.size .u8 U 43 _ rfl HP6.out Tryz.underlying43 rfl HSU.out ?_)
        | (refine wpList_store_id rfl 43 _ _ rfl rfl gr gr n n k (k * 32) 43 _ U HLN.out (Nat.mul_comm _ _) rfl rfl HO6.out HLI.out hkn HUK.out.1 HUK.out.2 Tryz.sizeI ?_))
      intro w7 ho7 hb7
      have HO7 := Lib.hid (HTL.out ▸ ho7.out)
      have HB7 := Lib.hid (show Below w.heap.size w w7 from But.toBelow HB6.out hb7.out (by rw [HGR.out]; exact Nat.le_succ _) HB6.out.size)
      have HP7 := Lib.hid (show Cells w.heap.size 43 (nums .u8 U).toArray w7 from (hb7.out.block w.heap.size HP6.out.lt (by have := HGR.out; omega)).trans HP6.out)
      clear ho7 hb7 HO6 HP6 HB6
      go_wp2_with fail
      exact ⟨⟨k + 1, by omega, by go_num, HO7.out, by rw [HTE.out]; exact HP7.out, HB7.out⟩, by simp [intOf]; omega⟩
    · obtain rfl : k = n := by omega
      have HM := Shut.mk (show leadN p i (L.take k) ++ List.replicate (k - k) (List.replicate 32 0) = leadN p i L by rw [Nat.sub_self, List.replicate_zero, List.append_nil, List.take_of_length_le (by rw [HN.out]; exact Nat.le_refl _)])
      rw [HM.out] at HO
      go_wp2_with fail
      go_ret
      exact ⟨⟨_, rfl, HO.out.mono (by rw [HGR.out]; exact Nat.le_succ _)⟩, HBW.out⟩
end Go.Proofs.YtpfhlhcnmeodbaaGreatDoor
namespace Go.Proofs.YtpfhlhcnmeodbaaGreatDoor
open Go.RowKit Go.BigFrame
theorem OwnI.rows {B : Nat} {e : TypeId} {v : Value} {L : List (List Nat)} {w : World} (h : OwnI B e v L w) : OwnR B 32 e v (L.map (nums .u8)) w := by
  unfold OwnR
  rw [List.length_map, ← List.flatMap_def]
  exact h
theorem OwnR.ids {B : Nat} {e : TypeId} {v : Value} {L : List (List Nat)} {w : World} (h : OwnR B 32 e v (L.map (nums .u8)) w) : OwnI B e v L w := by
  unfold OwnR at h
  rw [List.length_map, ← List.flatMap_def] at h
  exact h
theorem wide_ids {L : List (List Nat)} (h : Ids L) : Wide 32 (L.map (nums .u8)) := wide_map fun x hx => by rw [nums_len, (h x hx).1]
theorem OwnI.nocap {B : Nat} {e : TypeId} {n c : Nat} {L : List (List Nat)} {w : World} (h : OwnI B e (.slice none n c) L w) : c = 0 := by
  rcases h.2 with ⟨h1, _⟩ | ⟨g, cap, cur, h1, _⟩
  · simp only [Value.slice.injEq] at h1
    exact h1.2.2
  · cases h1
theorem op_push_ids {w : World} {o : Oper} {a : Act} {K : Act → World → Prop} {Q : Exit → Act → World → Prop} (hgd : o.guard = none) (s x : Operand) (ho : o.op = .call { callee := .builtin .append, args := #[s, x], argTypes := #[76, 76] })
    (B B2 : Nat) (v u : Value) (L M : List (List Nat)) (hM : Ids M) (hs : a.eval s = v) (hown : OwnI B 43 v L w) (hx : a.eval x = u) (hsrc : OwnI B2 43 u M w) (h63 : L.length + M.length ≤ 1000000) (hB : B ≤ w.heap.size)
    (h : ∀ v' w', OwnI B 43 v' (L ++ M) w' → w.grownBy w' v.ownBlock → (v'.ownBlock = v.ownBlock ∨ v'.ownBlock = some w.heap.size) → K (a.put o.dst v') w') : OpWp Tryz.prog o a w K Q := by
  obtain ⟨ao, c, rfl⟩ := hsrc.form
  refine op_of_list (ops := #[]) hgd (wpList_append_rowsv hgd s x 76 43 ho B 32 32 (.agg (nums .u8 (List.replicate 32 0)).toArray) rfl (by decide) (by decide) Tryz.underlying76 Tryz.infoI32 v (L.map (nums .u8)) (M.map (nums .u8)) (wide_ids hM) (fun y hy => by
    obtain ⟨c, hc, hy⟩ := List.mem_flatten.1 hy
    obtain ⟨e, _, rfl⟩ := List.mem_map.1 hc
    exact nums_one _ _ y hy) ao M.length c (by rw [List.length_map]) hs hown.rows hx (hsrc.rows.rat (wide_ids hM)) (fun e => by subst e; exact hsrc.nocap) (by rw [List.length_map, List.length_map]; exact h63) hB (fun v' w' h1 h2 h3 => ⟨rfl, h v' w' ?_ h2.out h3.out⟩))
  have q := h1.out
  rw [← List.map_append] at q
  exact q.ids
def AppM (w9 : World) (gH : Nat) (hs : List Nat) (W A : List (List Nat)) : Nat → Value → World → Prop
  | 0, _, w' => Below w9.heap.size w9 w'
  | 1, v, w' => v = .agg (nums .u8 hs).toArray ∧ Below w9.heap.size w9 w'
  | 2, v, w' => OwnI w9.heap.size 43 v W w' ∧ Below w9.heap.size w9 w'
  | _, v, w' => OwnI 0 43 v A w' ∧ (∀ z, v.ownBlock = some z → z = gH ∨ w9.heap.size ≤ z)
theorem field_logD3 (g : Nat) (w : World) : (Instr.fieldAt 78 (.pointer (some ⟨g, 0, none⟩)) 3).run Tryz.prog w = .ok (.pointer (some ⟨g, 3, none⟩)) w := by kernel_rfl
theorem index_id16 (b n c j : Nat) (hj : j < n) (w : World) : (Instr.indexAt 76 (.slice (some ⟨b, 0, none⟩) n c) (.int .i64 (j : Int))).run Tryz.prog w = .ok (.pointer (some ⟨b, j * 32, none⟩)) w := by
  have h1 : (j : Int) < (n : Int) := by omega
  go_simp
theorem rows_apart {K K2 : Nat} {e e2 : TypeId} {v v2 : Value} {C C2 : List (List Value)} {w : World} (h : RowK K e v C w) (h2 : RowK K2 e2 v2 C2 w) (hne : e ≠ e2) {z : Nat} (hz : v.ownBlock = some z) : v2.ownBlock ≠ some z := fun hu => by
  obtain ⟨c1, h3⟩ := h.heap hz
  obtain ⟨c2, h4⟩ := h2.heap hu
  rw [h3] at h4
  simp only [Option.some.injEq, Obj.cells.injEq] at h4
  exact hne h4.2.1
theorem appE_one {h : Nat} {L M : List EntN} {x : EntN} (hx : x ∈ M) (hg : ¬ GoodE x) : appE h L M = 1 := by rw [appE, if_neg (fun q => hg (q x hx))]
theorem appL_no {h : Nat} {L M : List EntN} (e : appE h L M ≠ 0) : appL h L M = L := by rw [appL, if_neg e]
theorem appL_yes {h : Nat} {L M : List EntN} (e : appE h L M = 0) : appL h L M = L ++ M := by rw [appL, if_pos e]
set_option maxHeartbeats 8000000 in
set_option maxRecDepth 100000 in
theorem dev_append {N : Nat} {O : Nat → Prop} {v : Value} {nd : Int} {seed : List UInt8} {h : Nat} {L : List EntN} (ao : Option Addr) (M : List EntN) (c : Nat) (w : World) (l : LogIs N O v nd seed h L w) (hl : L.length ≤ 2 ^ h) (_hL : ∀ x ∈ L, x.Len ∧ x.seq < 9223372036854775808) (hM : ∀ x ∈ M, x.Len ∧ x.seq < 9223372036854775808) (hn : M.length ≤ 1000000)
    (hat : EntsAt ao M w) (hnl : ao = none → c = 0) (hap : M ≠ [] → ∀ a, ao = some a → ¬ O a.block) (hk : KAt w) (hN : 0 < N) :
    Calls Tryz.prog 12 #[v, .slice ao M.length c] w fun e w' => e = .returned (.int .i64 (appE h L M : Nat)) ∧ ∃ O', LogIs N O' v nd seed h (appL h L M) w' ∧ Turn O O' w w' := by
  have HL := Lib.hid l
  have HLH := Lib.hid hl
  have HMM := Lib.hid hM
  have HAT := Lib.hid hat
  have HNL := Lib.hid hnl
  have HAP := Lib.hid hap
  have HK := Lib.hid hk
  have HKN := Lib.hid hN
  obtain ⟨va, rfl⟩ := l.ptr
  obtain ⟨m, hm⟩ : ∃ m, M.length = m := ⟨_, rfl⟩
  have HM := Shut.mk hm
  rw [hm] at hn ⊢
  have HZE := Lib.hid (show (Tryz.prog.info? 54).bind (·.zero) = some (.agg (entL noE).toArray) by kernel_rfl)
  clear l hl hM hat hnl hap hk hN hm
  go_enter Tryz.func12, Tryz.ntmps12
  go_wp2_with fail
  go_loopw [12] (fun i wr => ∃ k : Nat, k ≤ m ∧ i = .int .i64 k ∧ (∀ x ∈ M.take k, GoodE x) ∧ Below w.heap.size w wr) (fun i _ => m - (intOf i).toNat)
  case atStart => exact ⟨0, Nat.zero_le _, rfl, (fun x hx => by cases hx), Below.refl _ _⟩
  case round =>
    obtain ⟨k, hk, rfl, hg, hb⟩ := hrel
    have HG := Lib.hid hg
    have HBW := Lib.hid hb
    have HATW := Lib.hid (HAT.out.below hb)
    have HLW := Lib.hid (HL.out.below hb)
    have HKW := Lib.hid (HK.out.below hb)
    clear hb hg
    by_cases hkm : k < m
    · obtain ⟨y, hy⟩ : ∃ y, M[k]? = some y := ⟨_, List.getElem?_eq_getElem (by rw [HM.out]; exact hkm)⟩
      have HYM := Lib.hid (List.mem_of_getElem? hy)
      have HY := Lib.hid (HMM.out y HYM.out)
      have HTK := Lib.hid (show M.take (k + 1) = M.take k ++ [y] by
        have h1 : M[k]'(by rw [HM.out]; exact hkm) = y := by
          rw [List.getElem?_eq_getElem (by rw [HM.out]; exact hkm)] at hy
          exact Option.some.inj hy
        rw [List.take_succ_eq_append_getElem (by rw [HM.out]; exact hkm), h1])
      obtain ⟨bb, ob, rfl, hbl, hr⟩ := HATW.out.getM hy
      have HR := Lib.hid hr
      have HSL := Lib.hid (sizeEL HY.out.1.ok)
      have HSV := Lib.hid (sizeEV HY.out.1.ok)
      have HGD := Lib.hid (fun w' => dev_good15 y HY.out.1 w')
      obtain ⟨g, hgd⟩ : ∃ g, decide (GoodE y) = g := ⟨_, rfl⟩
      have HGG := Shut.mk hgd
      rw [hgd] at HGD
      clear hy hbl hr hgd
      go_wp2_with (first
        | (refine wpList_load_mid rfl 54 _ rfl bb (ob + k * 73) rfl _ _ HR.out Tryz.underlying54 rfl HSL.out ?_)
        | (refine wpList_alloc_of rfl 54 rfl (entL noE) HZE.out ?_)
        | (refine wpList_store_cells rfl 54 _ _ rfl rfl wr.heap.size (entV noE) (entV y) 54 rfl rfl (heap_alloc_new wr _) HSV.out (by rw [entV_size HY.out.1.ok]; rfl) (entV_all y) ?_))
      intro w4 hc hb
      have hb4 : Below wr.heap.size wr w4 := But.toBelow ((Below.refl _ wr).alloc (Nat.le_refl _) _) hb.out (Nat.le_refl _) (by rw [World.size_alloc]; exact Nat.le_succ _)
      have HC4 := Lib.hid hc.out
      have HB4 := Lib.hid (HBW.out.trans (hb4.mono HBW.out.size))
      obtain ⟨g5, hg5⟩ : ∃ g, wr.heap.size = g := ⟨_, rfl⟩
      rw [hg5] at HC4 ⊢
      clear hc hb hb4 hg5 HR HSL
      go_wp2_with (refine wpList_load_cells rfl 54 _ rfl g5 (entV y) 54 _ rfl HC4.out Tryz.underlying54 rfl HSV.out ?_)
      refine (HGD.out w4).mono ?_
      rintro r w5 ⟨rfl, hb⟩
      have HB5 := Lib.hid (HB4.out.trans (hb.mono HB4.out.size))
      clear hb HB4 HC4
      cases g with
      | false =>
        have HA := Shut.mk (appE_one (h := h) (L := L) HYM.out (of_decide_eq_false HGG.out))
        go_wp2_with fail
        go_ret
        exact ⟨by rw [HA.out]; rfl, _, by rw [appL_no (by rw [HA.out]; decide)]; exact HL.out.below HB5.out, Turn.of HB5.out⟩
      | true =>
        go_wp2_with fail
        exact ⟨⟨k + 1, by omega, by go_num, fun x hx => by
          rw [HTK.out] at hx
          rcases List.mem_append.1 hx with hx | hx
          · exact HG.out x hx
          · obtain rfl := List.mem_singleton.1 hx
            exact of_decide_eq_true HGG.out, HB5.out⟩, by simp [intOf]; omega⟩
    · obtain rfl : k = m := by omega
      have HGA := Lib.hid (show ∀ x ∈ M, GoodE x from fun x hx => HG.out x (by rw [List.take_of_length_le (by rw [HM.out]; exact Nat.le_refl _)]; exact hx))
      have HLF := Lib.hid (fun w' (b : Below wr.heap.size wr w') => dev_left w' (HLW.out.below b) HLH.out)
      have HLE := Lib.hid (fun w' (b : Below wr.heap.size wr w') => dev_len w' (HLW.out.below b))
      obtain ⟨n, hnn⟩ : ∃ n, L.length = n := ⟨_, rfl⟩
      obtain ⟨P2, hP2⟩ : ∃ n, 2 ^ h = n := ⟨_, rfl⟩
      have HN := Shut.mk hnn
      have HP2 := Shut.mk hP2
      have HNP := Lib.hid (show n ≤ P2 by rw [← hnn, ← hP2]; exact HLH.out)
      rw [hnn, hP2] at HLF
      rw [hnn] at HLE
      clear hnn hP2 HG HZE
      go_wp2_with fail
      refine (HLF.out wr (Below.refl _ _)).mono ?_
      rintro r w6 ⟨rfl, hb6⟩
      have HB6 := Lib.hid hb6
      clear hb6 HLF
      by_cases hsp : P2 - n < k
      · have HA := Shut.mk (show appE h L M = 8 by rw [appE, if_pos HGA.out, if_neg (by rw [HN.out, HM.out, HP2.out]; have := HNP.out; omega)])
        have hsq : ((P2 - n : Nat) : Int) < (k : Int) := by omega
        go_wp2_with fail
        go_ret
        exact ⟨by rw [HA.out]; rfl, _, by rw [appL_no (by rw [HA.out]; decide)]; exact HL.out.below (HBW.out.trans (HB6.out.mono HBW.out.size)), Turn.of (HBW.out.trans (HB6.out.mono HBW.out.size))⟩
      have HA := Shut.mk (show appE h L M = 0 by rw [appE, if_pos HGA.out, if_pos (by rw [HN.out, HM.out, HP2.out]; have := HNP.out; omega)])
      have HAL := Shut.mk (appL_yes HA.out)
      have hsq : ¬ ((P2 - n : Nat) : Int) < (k : Int) := by omega
      have HSP := Lib.hid (show n + k ≤ P2 by have := HNP.out; omega)
      go_wp2_with fail
      refine (HLE.out w6 HB6.out).mono ?_
      rintro r w9 ⟨rfl, hb9⟩
      have HB9 := Lib.hid (HBW.out.trans ((HB6.out.trans (hb9.mono HB6.out.size)).mono HBW.out.size))
      clear hb9 HB6 HBW HLW HKW HATW HLE hsp
      obtain ⟨b, kv, vL, vH, hv, hO, la⟩ := HL.out.below HB9.out
      cases hv
      have HLA := Lib.hid la
      have HO := Shut.mk hO
      obtain ⟨gH, cH, rfl, -, hgl⟩ := la.ids.formB (by rw [allH_len]; exact Nat.succ_pos _)
      obtain ⟨n1, hn1⟩ : ∃ x, (allH L).length = x := ⟨_, rfl⟩
      have HN1 := Shut.mk hn1
      have HNN1 := Lib.hid (show n1 = n + 1 by rw [← hn1, allH_len, HN.out])
      rw [hn1] at HLA HO
      have HGL := Lib.hid hgl
      have HIDS := Lib.hid HLA.out.ids
      have HK9 := Lib.hid (HK.out.below HB9.out)
      have HATX := Lib.hid (HAT.out.below HB9.out)
      have h8 := two_le HLA.out.key.high
      rw [HP2.out] at h8
      have hnk : n ≤ 256 := by have := HNP.out; omega
      have hkk : k ≤ 256 := by omega
      have hn256 : n + k ≤ 256 := by have := HNP.out; omega
      have HBLT := Lib.hid HLA.out.cells.lt
      have HBGH := Lib.hid (show b ≠ gH from fun e => (HIDS.out.rows.row.notCells HLA.out.cells (by decide)) (by rw [e]; rfl))
      have HC3 := Lib.hid (fun (w' : World) (q : Only (fun x => x = gH) w9 w') => show w'.cell? ⟨b, 3, none⟩ = some (.slice (some ⟨gH, 0, none⟩) n1 cH) from (HLA.out.cells.only q HBGH.out).at 3)
      have HIX := Lib.hid (index_id16 gH n1 cH n (by rw [HNN1.out]; exact Nat.lt_succ_self n))
      have HFD := Lib.hid (fun w => field_logD3 b w)
      have HHS := Lib.hid (hashL_ok L n)
      have HRG := Lib.hid (fun (w' : World) (q : Below w9.heap.size w9 w') => show w'.rangeAt gH (n * 32) (nums .u8 (hashL L n)) from by
        have h1 := IAt.get ((HIDS.out.below q).at (allH_ok L)) (i := n) (by rw [HN1.out, HNN1.out]; exact Nat.lt_succ_self n)
        rw [allH_getD L (by rw [HN.out]; exact Nat.le_refl n), Nat.zero_add] at h1
        exact h1)
      have HSI := Lib.hid (show (Tryz.prog.info? 43).map (·.size) = some (hashL L n).length by rw [HHS.out.1]; exact Tryz.sizeI)
      have HAD := Lib.hid (show ∀ w, (binOp .add 3 (.int .i64 (n : Int)) (.int .i64 1)).run Tryz.prog w = .ok (.int .i64 ((n : Int) + 1)) w from fun w => by go_simp; rw [IntWalk.i64_left, IntWalk.wrap64_in _ (by omega)])
      have HWK := Lib.hid (fun (w' : World) (q : Below w9.heap.size w9 w') => dev_walk16 (hashL L n) ((n : Int) + 1) ao M c w' HHS.out (by omega) (by rw [HM.out]; omega) HMM.out (by rw [HM.out]; omega) (HATX.out.below q) (HK9.out.below q))
      rw [HM.out] at HWK
      have HEL := Shut.mk (show allH L ++ leadN (hashL L n) ((n : Int) + 1) M = allH (L ++ M) by rw [allH_app, HN.out, show 1 + (n : Int) = (n : Int) + 1 by omega])
      have HWL := Lib.hid (show (leadN (hashL L n) ((n : Int) + 1) M).length = k by rw [leadN_len, HM.out])
      have HWI := Lib.hid (show Ids (leadN (hashL L n) ((n : Int) + 1) M) from leadN_ok _ _ _)
      obtain ⟨W, hW⟩ : ∃ x, leadN (hashL L n) ((n : Int) + 1) M = x := ⟨_, rfl⟩
      rw [hW] at HWK HEL HWL HWI
      obtain ⟨hs, hhs⟩ : ∃ x, hashL L n = x := ⟨_, rfl⟩
      rw [hhs] at HRG HSI HWK
      clear hW hhs la hO hgl hn1 HL HAT HK hsq h8
      go_upto_region 12 with (fail)
      refine wp_region_free 19 (fun q V w' => Vals q V [(0, .pointer (some ⟨b, 0, none⟩)), (1, .pointer (some ⟨b, 0, none⟩)), (2, .pointer (some ⟨b, 0, none⟩)), (3, .pointer (some ⟨b, 3, none⟩)), (4, .slice (some ⟨gH, 0, none⟩) n1 cH), (5, .pointer (some ⟨b, 0, none⟩)), (6, .pointer (some ⟨b, 0, none⟩)), (7, .pointer (some ⟨b, 3, none⟩)), (8, .slice (some ⟨gH, 0, none⟩) n1 cH), (9, .int .i64 (n : Int)), (10, .pointer (some ⟨gH, n * 32, none⟩)), (12, .int .i64 (n : Int)), (13, .int .i64 ((n : Int) + 1)), (14, .slice ao k c), (17, .pointer (some ⟨b, 0, none⟩)), (18, .pointer (some ⟨b, 3, none⟩))] ∧ Only (fun x => x = gH) w9 w' ∧ Chain [11, 15, 16] (fun w' => Only (fun x => x = gH) w9 w') (AppM w9 gH hs W (allH (L ++ M))) q V w') (fun _ => undef) (by kernel_rfl) (by kernel_rfl) (by kernel_rfl) (by simp only [List.take_succ_cons, List.take_zero, putAll, Act.put, List.setIfInBounds_toArray, List.set_cons_zero, List.set_cons_succ]) ⟨Vals.none, Only.of (Below.refl _ _).drew, Chain.none (Only.of (Below.refl _ _).drew) (fun _ => (Below.refl _ _).drew)⟩ ?_ ?_
      · simp only [List.take_succ_cons, List.take_zero, putAll, Nat.zero_add, Nat.reduceAdd, Act.put, List.setIfInBounds_toArray, List.set_cons_zero, List.set_cons_succ]
        refine FreeSteps.cons ?_ (FreeSteps.cons ?_ (FreeSteps.cons ?_ (FreeSteps.cons ?_ (FreeSteps.cons ?_ (FreeSteps.cons ?_ (FreeSteps.cons ?_ (FreeSteps.cons ?_ (FreeSteps.cons ?_ (FreeSteps.cons ?_ (FreeSteps.cons ?_ (FreeSteps.cons ?_ (FreeSteps.cons ?_ (FreeSteps.cons ?_ (FreeSteps.cons ?_ (FreeSteps.cons ?_ (FreeSteps.cons ?_ (FreeSteps.cons ?_ (FreeSteps.cons ?_ (FreeSteps.nil)))))))))))))))))))
        all_goals (refine FreeStep.fresh rfl ?_; rintro q V wq hr hu ⟨hVs, hb, hch⟩ K hK)
        · exact op_move (.tmp 0) rfl _ rfl (hK _ _ ⟨hVs.set rfl, hb, hch.ne (by decide) (by decide)⟩)
        · exact op_move (.tmp 0) rfl _ rfl (hK _ _ ⟨hVs.set rfl, hb, hch.ne (by decide) (by decide)⟩)
        · exact op_nilCheck (.tmp 28) rfl ⟨b, 0, none⟩ (hVs.get 1 (hr { on := 1, ground := .data } (by simp) rfl) rfl) (hK _ _ ⟨hVs.set rfl, hb, hch.ne (by decide) (by decide)⟩)
        · exact op_fieldAt 78 (.tmp 29) 3 rfl _ _ (hVs.get 2 (hr { on := 2, ground := .data } (by simp) rfl) rfl) HFD.out (hK _ _ ⟨hVs.set rfl, hb, hch.ne (by decide) (by decide)⟩)
        · exact op_load_cell 76 (.tmp 30) rfl _ _ (hVs.get 3 (hr { on := 3, ground := .data } (by simp) rfl) rfl) (HC3.out wq hb) Tryz.isAgg76 (hK _ _ ⟨hVs.set rfl, hb, hch.ne (by decide) (by decide)⟩)
        · exact op_move (.tmp 0) rfl _ rfl (hK _ _ ⟨hVs.set rfl, hb, hch.ne (by decide) (by decide)⟩)
        · exact op_nilCheck (.tmp 32) rfl ⟨b, 0, none⟩ (hVs.get 5 (hr { on := 5, ground := .data } (by simp) rfl) rfl) (hK _ _ ⟨hVs.set rfl, hb, hch.ne (by decide) (by decide)⟩)
        · exact op_fieldAt 78 (.tmp 33) 3 rfl _ _ (hVs.get 6 (hr { on := 6, ground := .data } (by simp) rfl) rfl) HFD.out (hK _ _ ⟨hVs.set rfl, hb, hch.ne (by decide) (by decide)⟩)
        · exact op_load_cell 76 (.tmp 34) rfl _ _ (hVs.get 7 (hr { on := 7, ground := .data } (by simp) rfl) rfl) (HC3.out wq hb) Tryz.isAgg76 (hK _ _ ⟨hVs.set rfl, hb, hch.ne (by decide) (by decide)⟩)
        · exact op_move (.tmp 7) rfl _ rfl (hK _ _ ⟨hVs.set rfl, hb, hch.ne (by decide) (by decide)⟩)
        · exact op_indexAt 76 (.tmp 35) (.tmp 36) rfl _ (.int .i64 (n : Int)) _ (hVs.get 8 (hr { on := 8, ground := .data } (by simp) rfl) rfl) (hVs.get 9 (hr { on := 9, ground := .data } (by simp) rfl) rfl) HIX.out (hK _ _ ⟨hVs.set rfl, hb, hch.ne (by decide) (by decide)⟩)
        · have hm : Below w9.heap.size w9 wq := hch.at 0 (by decide) hu (.inl rfl)
          refine op_load_id 43 (.tmp 37) rfl gH (n * 32) hs _ (hVs.get 10 (hr { on := 10, ground := .data } (by simp) rfl) rfl) (HRG.out wq hm) Tryz.underlying43 rfl HSI.out ?_
          have hc1 := hch.step (v := .agg (nums .u8 hs).toArray) 0 (by decide) (by decide) hu (.inl rfl) hb ⟨rfl, hm⟩
          exact (hK _ _ ⟨hVs.off rfl, hb, hc1⟩)
        · exact op_move (.tmp 7) rfl _ rfl (hK _ _ ⟨hVs.set rfl, hb, hch.ne (by decide) (by decide)⟩)
        · exact op_bin .add 3 3 (.tmp 39) _ rfl _ _ _ (hVs.get 12 (hr { on := 12, ground := .data } (by simp) rfl) rfl) rfl (fun w => rfl) HAD.out (hK _ _ ⟨hVs.set rfl, hb, hch.ne (by decide) (by decide)⟩)
        · exact op_move (.tmp 1) rfl _ rfl (hK _ _ ⟨hVs.set rfl, hb, hch.ne (by decide) (by decide)⟩)
        · obtain ⟨hv1, hm⟩ : AppM w9 gH hs W (allH (L ++ M)) 1 (V 11) wq := hch.at 1 (by decide) hu (.inr (hr { on := 11, ground := .data } (by simp) rfl))
          refine op_call Tryz.func33 rfl rfl rfl [.agg (nums .u8 hs).toArray, .int .i64 ((n : Int) + 1), .slice ao k c] (cons_eq hv1 (cons_eq (hVs.get 13 (hr { on := 13, ground := .data } (by simp) rfl) rfl) (cons_eq (hVs.get 14 (hr { on := 14, ground := .data } (by simp) rfl) rfl) rfl))) (HWK.out wq hm) ?_
          rintro e w' ⟨⟨u, rfl, hrow⟩, hb'⟩
          have hbn : Below w9.heap.size w9 w' := hm.trans (hb'.mono hm.size)
          have hc2 := hch.step (v := u) 1 (by decide) (by decide) hu (.inr (hr { on := 11, ground := .data } (by simp) rfl)) (Only.of hbn) ⟨hrow.mono hm.size, hbn⟩
          exact ⟨_, rfl, (hK _ _ ⟨hVs.off rfl, Only.of hbn, hc2⟩)⟩
        · obtain ⟨hrow, hm⟩ : AppM w9 gH hs W (allH (L ++ M)) 2 (V 15) wq := hch.at 2 (by decide) hu (.inr (hr { on := 15, ground := .data } (by simp) rfl))
          refine op_push_ids rfl (.tmp 31) (.tmp 42) rfl 0 w9.heap.size (.slice (some ⟨gH, 0, none⟩) n1 cH) (V 15) (allH L) W HWI.out (hVs.get 4 (hr { on := 4, ground := .data } (by simp) rfl) rfl) (HIDS.out.below hm) rfl hrow (by rw [HN1.out, HNN1.out, HWL.out]; omega) (Nat.zero_le _) ?_
          intro v' w' ho' hg' hd'
          rw [HEL.out] at ho'
          have hbn : Only (fun x => x = gH) w9 w' := (Only.of (O := fun x => x = gH) hm).grown hg' (fun z hz => by cases hz; exact .inl rfl)
          have hc3 := hch.step (v := v') 2 (by decide) (by decide) hu (.inr (hr { on := 15, ground := .data } (by simp) rfl)) hbn ⟨ho', fun z hz => by
            rcases hd' with e | e
            · rw [hz] at e; cases e; exact .inl rfl
            · rw [hz] at e; cases e; exact .inr hm.size⟩
          exact (hK _ _ ⟨hVs.off rfl, hbn, hc3⟩)
        · exact op_nilCheck (.tmp 27) rfl ⟨b, 0, none⟩ (hVs.get 0 (hr { on := 0, ground := .data } (by simp) rfl) rfl) (hK _ _ ⟨hVs.set rfl, hb, hch.ne (by decide) (by decide)⟩)
        · exact op_fieldAt 78 (.tmp 44) 3 rfl _ _ (hVs.get 17 (hr { on := 17, ground := .data } (by simp) rfl) rfl) HFD.out (hK _ _ ⟨hVs.set rfl, hb, hch.ne (by decide) (by decide)⟩)
      rintro q V wq hall ⟨hVs, hb, hch⟩
      have v0 := hVs.get 0 (hall 0 (by decide)) rfl
      have v1 := hVs.get 1 (hall 1 (by decide)) rfl
      have v2 := hVs.get 2 (hall 2 (by decide)) rfl
      have v3 := hVs.get 3 (hall 3 (by decide)) rfl
      have v4 := hVs.get 4 (hall 4 (by decide)) rfl
      have v5 := hVs.get 5 (hall 5 (by decide)) rfl
      have v6 := hVs.get 6 (hall 6 (by decide)) rfl
      have v7 := hVs.get 7 (hall 7 (by decide)) rfl
      have v8 := hVs.get 8 (hall 8 (by decide)) rfl
      have v9 := hVs.get 9 (hall 9 (by decide)) rfl
      have v10 := hVs.get 10 (hall 10 (by decide)) rfl
      obtain ⟨u11, v11⟩ : ∃ v, V 11 = v := ⟨_, rfl⟩
      have v12 := hVs.get 12 (hall 12 (by decide)) rfl
      have v13 := hVs.get 13 (hall 13 (by decide)) rfl
      have v14 := hVs.get 14 (hall 14 (by decide)) rfl
      obtain ⟨u15, v15⟩ : ∃ v, V 15 = v := ⟨_, rfl⟩
      obtain ⟨u16, v16⟩ : ∃ v, V 16 = v := ⟨_, rfl⟩
      have v17 := hVs.get 17 (hall 17 (by decide)) rfl
      have v18 := hVs.get 18 (hall 18 (by decide)) rfl
      obtain ⟨hrow, hnew⟩ : AppM w9 gH hs W (allH (L ++ M)) 3 (V 16) wq := hch.fin (fun p hp => by match p, hp with | 0, _ => exact hall 11 (by decide) | 1, _ => exact hall 15 (by decide) | 2, _ => exact hall 16 (by decide))
      rw [v16] at hrow hnew
      simp only [List.take_succ_cons, List.take_zero, List.drop_succ_cons, List.drop_zero, putAll, Nat.zero_add, Nat.reduceAdd, v0, v1, v2, v3, v4, v5, v6, v7, v8, v9, v10, v11, v12, v13, v14, v15, v16, v17, v18, Act.put, List.setIfInBounds_toArray, List.set_cons_zero, List.set_cons_succ]
      clear hVs v0 v1 v2 v3 v4 v5 v6 v7 v8 v9 v10 v11 v12 v13 v14 v15 v16 v17 v18 hall
      obtain ⟨a4, c4, hu⟩ := hrow.form
      obtain ⟨n2, hn2⟩ : ∃ x, (allH (L ++ M)).length = x := ⟨_, rfl⟩
      rw [hn2] at hu
      subst hu
      have HROW := Lib.hid hrow
      have HNEW := Lib.hid hnew
      have HON := Lib.hid hb
      have hcs := HLA.out.cells.only hb HBGH.out
      have HCS := Lib.hid hcs
      have cf := HC3.out wq hb
      have ff := hcs.frozen 3
      clear hch hrow hb hnew hcs hn2 HC3 HIX HFD HRG HSI HAD HWK HEL
      go_upto_region 13 with (fail)
      obtain ⟨wx, hwx⟩ : ∃ x, x = wq.setCell ⟨b, 3, none⟩ (.slice (some ⟨gH, 0, none⟩) n1 cH) := ⟨_, rfl⟩
      clear hwx wx
      have hbelow : ∀ x, (x = gH ∨ x = b) → O x := fun x hx => by
        rw [HO.out]
        rcases hx with rfl | rfl
        · exact .inr (.inr rfl)
        · exact .inl rfl
      have hon10 : Only (fun x => x = gH ∨ x = b) w9 (wq.setCell ⟨b, 3, none⟩ (.slice a4 n2 c4)) := Only.setCell ⟨HON.out.os, HON.out.tape, HON.out.output, HON.out.size, fun k hk hn => HON.out.block k hk (fun e => hn (.inl e))⟩ 3 _ (.inl (.inr rfl))
      have hc10 := HCS.out.set 3 (.slice a4 n2 c4)
      have hr10 : OwnI 0 43 (.slice a4 n2 c4) (allH (L ++ M)) (wq.setCell ⟨b, 3, none⟩ (.slice a4 n2 c4)) := HROW.out.only16 (P := fun x => x = b) ((Only.refl _ wq).setCell 3 _ (.inl rfl)) (fun z hz e => HROW.out.rows.row.notCells HCS.out (by decide) (e ▸ hz))
      obtain ⟨w10, hw10⟩ : ∃ x, x = wq.setCell ⟨b, 3, none⟩ (.slice a4 n2 c4) := ⟨_, rfl⟩
      rw [← hw10] at hon10 hc10 hr10 ⊢
      clear hw10 cf ff
      have HR10 := Lib.hid hr10
      have HC10 := Lib.hid hc10
      have HON10 := Lib.hid hon10
      have hat10 : EntsAt ao M w10 := by
        rcases HATX.out with h0 | ⟨bb, oo, ha, hlt, hc⟩
        · exact .inl h0
        · by_cases hM0 : M = []
          · exact .inl (by rw [hM0]; rfl)
          · exact .inr ⟨bb, oo, ha, Nat.lt_of_lt_of_le hlt hon10.size, fun i c hc' j v hv => (World.cell?_of_block (w := w9) (a := ⟨bb, oo + i * 73 + j, none⟩) (hon10.block bb hlt (fun e => HAP.out hM0 _ ha (hbelow bb e)))).trans (hc i c hc' j v hv)⟩
      have HAT10 := Lib.hid hat10
      obtain ⟨aL, cL, rfl⟩ := HLA.out.ents.form
      have HPL := Lib.hid (show ∀ z, (Value.slice aL L.length cL).ownBlock = some z → z ≠ gH ∧ z ≠ b from fun z hz => ⟨fun e => rows_apart HLA.out.ents.1.row HIDS.out.rows.row (by decide) hz (by rw [e]; rfl), fun e => HLA.out.ents.1.row.notCells HLA.out.cells (by decide) (e ▸ hz)⟩)
      have HE10 := Lib.hid (HLA.out.ents.1.only hon10 (fun z hz e => by
        rcases e with e | e
        · exact (HPL.out z hz).1 e
        · exact (HPL.out z hz).2 e))
      have HEOK := Lib.hid HLA.out.ents.2
      have c2 : w10.cell? ⟨b, 2, none⟩ = some (.slice aL n cL) := by
        rw [← HN.out]
        exact hc10.at 2
      obtain ⟨bytes, hby, hinfo⟩ := Tryz.infoE73
      have HBY := Lib.hid hby
      have HIN := Lib.hid hinfo
      have HBGL := Lib.hid (show ∀ z, (Value.slice aL n cL).ownBlock = some z → z ≠ gH ∧ z ≠ b from fun z hz => HPL.out z (by rw [HN.out]; exact hz))
      have HE10n := Lib.hid (show OwnR 0 73 54 (.slice aL n cL) (L.map entL) w10 from by rw [← HN.out]; exact HE10.out)
      clear hby hinfo hon10 hc10 hr10 hat10
      go_wp2_with (refine wpList_append_rowsv rfl _ _ 35 54 rfl 0 73 bytes _ rfl (by decide) HBY.out Tryz.underlying35 HIN.out (.slice aL n cL) (L.map entL) (M.map entL) (wide_map fun x hx => entL_len (HMM.out x hx).1.ok) flat_one ao k c (by rw [List.length_map, HM.out]) rfl HE10n.out rfl HAT10.out HNL.out (by rw [List.length_map, List.length_map, HN.out, HM.out]; omega) (Nat.zero_le _) ?_)
      intro v11 w11 ho hg hd
      obtain ⟨a5, c5, hu5⟩ := ho.out.form
      obtain ⟨n5, hn5⟩ : ∃ x, (L.map entL ++ M.map entL).length = x := ⟨_, rfl⟩
      rw [hn5] at hu5
      subst hu5
      clear hn5
      have HO11 := Lib.hid ho.out
      have HG11 := Lib.hid hg.out
      have HD11 := Lib.hid hd.out
      have hc11 : Cells b 78 _ w11 := HC10.out.only ((Only.refl (fun x => (Value.slice aL n cL).ownBlock = some x) w10).grown hg.out (fun _ h => .inl h)) (fun e => (HBGL.out b e).2 rfl)
      have HC11 := Lib.hid hc11
      have cf : w11.cell? ⟨b, 2, none⟩ = some (.slice aL n cL) := by
        rw [← HN.out]
        exact hc11.at 2
      have ff := hc11.frozen 2
      clear ho hg hd hc11 c2
      go_wp2_with fail
      go_ret
      have hc12 := HC11.out.set 2 (.slice a5 n5 c5)
      have ho12 : OwnR 0 73 54 (.slice a5 n5 c5) (L.map entL ++ M.map entL) (w11.setCell ⟨b, 2, none⟩ (.slice a5 n5 c5)) := HO11.out.only (O := fun x => x = b) ((Only.refl _ w11).setCell 2 _ (.inl rfl)) (fun z hz e => HO11.out.row.notCells HC11.out (by decide) (e ▸ hz))
      have hon11 : Only (fun x => x = gH ∨ x = b ∨ (Value.slice aL n cL).ownBlock = some x) w9 w11 := Only.grown ⟨HON10.out.os, HON10.out.tape, HON10.out.output, HON10.out.size, fun k hk hn => HON10.out.block k hk (fun e => hn (e.elim .inl (fun e => .inr (.inl e))))⟩ HG11.out (fun z hz => .inl (.inr (.inr hz)))
      have hon12 : Only (fun x => x = gH ∨ x = b ∨ (Value.slice aL n cL).ownBlock = some x) w9 (w11.setCell ⟨b, 2, none⟩ (.slice a5 n5 c5)) := hon11.setCell 2 _ (.inl (.inr (.inl rfl)))
      have hPO : ∀ x, (x = gH ∨ x = b ∨ (Value.slice aL n cL).ownBlock = some x) → O x := fun x hx => by
        rw [HO.out]
        rcases hx with hx | hx | hx
        · exact .inr (.inr (by rw [hx]; rfl))
        · exact .inl hx
        · exact .inr (.inl (by rw [HN.out]; exact hx))
      have hON : ∀ x, O x → N ≤ x := fun x hx => HLA.out.late x (by rw [← HO.out]; exact hx)
      have hN9 : N ≤ w9.heap.size := Nat.le_of_lt (Nat.lt_of_le_of_lt (hON b (hPO b (.inr (.inl rfl)))) HBLT.out)
      have hid12 : OwnI 0 43 (.slice a4 n2 c4) (allH (L ++ M)) (w11.setCell ⟨b, 2, none⟩ (.slice a5 n5 c5)) := HR10.out.only16 (P := fun x => (Value.slice aL n cL).ownBlock = some x ∨ x = b) (((Only.refl _ w10).grown HG11.out (fun z hz => .inl (.inl hz))).setCell 2 _ (.inl (.inr rfl))) (fun z hz e => by
        rcases e with e | e
        · exact rows_apart HE10n.out.row HR10.out.rows.row (by decide) e hz
        · exact HR10.out.rows.row.notCells HC10.out (by decide) (e ▸ hz))
      have hown : ∀ x, logO b (.slice a5 n5 c5) (.slice a4 n2 c4) x → O x ∨ w9.heap.size ≤ x := fun x hx => by
        rcases hx with hx | hx | hx
        · exact .inl (hPO x (.inr (.inl hx)))
        · rcases HD11.out with e | e
          · exact .inl (hPO x (.inr (.inr (by rw [← e]; exact hx))))
          · rw [hx] at e
            cases e
            exact .inr HON10.out.size
        · rcases HNEW.out x hx with e | e
          · exact .inl (hPO x (.inl e))
          · exact .inr e
      obtain ⟨w0, h00, hk0, hb0⟩ := HLA.out.keys
      refine ⟨by rw [HA.out]; rfl, logO b (.slice a5 n5 c5) (.slice a4 n2 c4), ⟨b, kv, _, _, rfl, rfl, ?_⟩, ?_⟩
      · rw [HAL.out]
        refine ⟨hc12, ⟨by rw [List.map_append]; exact ho12, fun x hx => ?_⟩, hid12, ⟨w0, h00, hk0, Only.toBelow hb0 hon12 (fun x hx => Nat.le_trans h00 (hON x (hPO x hx))) hb0.size⟩, fun x hx => ?_, by rw [List.length_append, HN.out, HM.out, HP2.out]; exact HSP.out, HLA.out.node⟩
        · rcases List.mem_append.1 hx with hx | hx
          · exact HEOK.out x hx
          · exact (HMM.out x hx).1.ok
        · rcases hown x hx with e | e
          · exact hON x e
          · exact Nat.le_trans hN9 e
      · refine ⟨Only.trans (Only.of (O := O) HB9.out) (O' := O) ⟨hon12.os, hon12.tape, hon12.output, hon12.size, fun k hk hn => hon12.block k hk (fun e => hn (hPO k e))⟩ (fun _ h => .inl h), fun x hx => ?_⟩
        rcases hown x hx with e | e
        · exact .inl e
        · exact .inr (Nat.le_trans HB9.out.size e)
theorem dev_append_nil (w : World) : Calls Tryz.prog 12 #[.pointer none, .slice none 0 0] w fun r w' => r = .returned (.int .i64 2) ∧ Below w.heap.size w w' := by
  go_enter Tryz.func12, Tryz.ntmps12
  go_wp2_with fail
  go_ret
  exact ⟨rfl, Below.refl _ _⟩
end Go.Proofs.YtpfhlhcnmeodbaaGreatDoor
namespace Go.Proofs.YtpfhlhcnmeodbaaGreatDoor
open Go.RowKit Go.BigFrame
theorem field_logD0 (g : Nat) (w : World) : (Instr.fieldAt 78 (.pointer (some ⟨g, 0, none⟩)) 0).run Tryz.prog w = .ok (.pointer (some ⟨g, 0, none⟩)) w := by kernel_rfl
set_option maxHeartbeats 8000000 in
set_option maxRecDepth 100000 in
theorem dev_auth {N : Nat} {O : Nat → Prop} {v : Value} {nd : Int} {seed : List UInt8} {h : Nat} {L : List EntN} (k : Nat) (w : World) (l : LogIs N O v nd seed h L w) (h1 : 1 ≤ k) (hk : k ≤ L.length) (hK : KAt w) :
    Calls Tryz.prog 9 #[v, .int .i64 k] w fun r w' => r = .returned (.tuple #[.agg (autV (authL nd seed h L k)), .int .i64 0]) ∧ Below w.heap.size w w' := by
  have hx : Cells w.heap.size 45 (autV noA) (w.alloc (.cells (autV noA) 45)) := heap_alloc_new w _
  have hb : Below w.heap.size w (w.alloc (.cells (autV noA) 45)) := (Below.refl _ _).alloc (Nat.le_refl _) _
  have HH := Lib.hid (dev_has (k : Int) _ (l.below hb))
  rw [decide_eq_true (show 1 ≤ (k : Int) ∧ (k : Int) ≤ (L.length : Int) by omega)] at HH
  have hSZ : w.heap.size + 1 = (w.alloc (.cells (autV noA) 45)).heap.size := (World.size_alloc _ _).symm
  obtain ⟨b, kv, vL, vH, rfl, -, la⟩ := l
  obtain ⟨gH, cH, rfl, -, hgl⟩ := la.ids.formB (by rw [allH_len]; exact Nat.succ_pos _)
  obtain ⟨n1, hn1⟩ : ∃ x, (allH L).length = x := ⟨_, rfl⟩
  have hnk : k < n1 := by rw [← hn1, allH_len]; omega
  rw [hn1] at la
  have HX := Lib.hid hx
  have HB := Lib.hid hb
  have HSZ1 := Lib.hid hSZ
  have HRG := Lib.hid (fun (w' : World) (q : Below w.heap.size w w') => show w'.rangeAt gH (k * 32) (nums .u8 (hashL L k)) from by
    have h1 := IAt.get ((la.ids.below q).at (allH_ok L)) (i := k) (by rw [hn1]; exact hnk)
    rw [allH_getD L hk, Nat.zero_add] at h1
    exact h1)
  have hcl := la.cells.lt
  have hcf := la.fields
  have HC0 := Lib.hid (fun (w' : World) (q : Below w.heap.size w w') => (q.cell (p := ⟨b, 0, none⟩) hcl).trans hcf.1)
  have HC1 := Lib.hid (fun (w' : World) (q : Below w.heap.size w w') => (q.cell (p := ⟨b, 1, none⟩) hcl).trans hcf.2.1)
  have HC3 := Lib.hid (fun (w' : World) (q : Below w.heap.size w w') => (q.cell (p := ⟨b, 3, none⟩) hcl).trans hcf.2.2.2)
  have hkey := la.key
  have h8 := two_le hkey.high
  have hkm : k - 1 < 2 ^ h := by have := la.few; omega
  have hkb : k ≤ 256 := by have := la.few; omega
  have hnd := la.node
  have HHS := Lib.hid (hashL_ok L k)
  have HSI := Lib.hid (show (Tryz.prog.info? 43).map (·.size) = some (hashL L k).length by rw [HHS.out.1]; exact Tryz.sizeI)
  have HLZ := Lib.hid (show zeroI.length = (hashL L k).length by rw [HHS.out.1]; rfl)
  have HZI := Lib.hid (show (Tryz.prog.info? 43).bind (·.zero) = some (.agg (nums .u8 zeroI).toArray) by kernel_rfl)
  have HIX := Lib.hid (fun w' => dev_index16 (k : Int) w' (by omega) (by omega))
  rw [show (k : Int) - 1 = ((k - 1 : Nat) : Int) by omega] at HIX
  have HWD := Lib.hid (fun w' => dev_word16 nd (k : Int) (hashL L k) (by omega) (by omega) (by omega) (by omega) HHS.out w')
  have HWL := Lib.hid (show (wordB nd (k : Int) (hashL L k)).length ≤ 1000000 from Nat.le_trans (wordB_len (by omega) (by omega) HHS.out) (by decide))
  have HAE := Shut.mk (show authL nd seed h L k = ⟨nd, (k : Int), hashL L k, signK seed h (k - 1) (wordB nd k (hashL L k))⟩ from rfl)
  obtain ⟨ka, rfl⟩ := hkey.ptr
  have HSG := Lib.hid (fun w' (q : Below w.heap.size w w') (t : List UInt8) (ht : t.length ≤ 1000000) (qk : KAt w') => dev_sign6 (.pointer (some ka)) seed h (k - 1) t w' (hkey.below q) hkm ht qk)
  have HKW := Lib.hid hK
  obtain ⟨X, hX⟩ : ∃ x, authL nd seed h L k = x := ⟨_, rfl⟩
  rw [hX] at HAE
  have HXE := Shut.mk hX
  clear hX
  obtain ⟨HS, hhs⟩ : ∃ x, hashL L k = x := ⟨_, rfl⟩
  rw [hhs] at HRG HSI HLZ HHS HWD HWL HAE
  obtain ⟨W, hW⟩ : ∃ x, wordB nd (k : Int) HS = x := ⟨_, rfl⟩
  rw [hW] at HWD HWL HAE
  have hsg := HSG.out
  obtain ⟨SG, hSG⟩ : ∃ x, signK seed h (k - 1) W = x := ⟨_, rfl⟩
  have HSW := Lib.hid (fun w' (q : Below w.heap.size w w') (qk : KAt w') => HSG.out w' q W HWL.out qk)
  rw [hSG] at HSW HAE
  obtain ⟨j, hj⟩ : ∃ x, k - 1 = x := ⟨_, rfl⟩
  rw [hj] at HIX HSW
  have HXOK := Lib.hid (show IdOk X.hash by rw [HAE.out]; exact HHS.out)
  have HBX := Lib.hid (show ∀ w, (Instr.build 45 ([(0, .int .i64 nd), (1, .int .i64 (k : Int)), (2, .agg (nums .u8 HS).toArray), (3, .string ⟨SG.toArray⟩)] : List (Nat × Value)).toArray).run Tryz.prog w = .ok (.agg (autV X)) w from fun w => by
    have hb := built_aut X HXOK.out
    rw [HAE.out] at hb ⊢
    exact run_build w 45 _ _ hb)
  have HSX := Lib.hid (sizeAV HXOK.out)
  have HSY := Lib.hid (show (autV noA).size = (autV X).size by rw [autV_size HXOK.out]; rfl)
  have HFD := Lib.hid (fun w => field_logD0 b w)
  have HHK := Lib.hid hk
  rw [HXE.out]
  clear la hx hb hgl hhs hn1 hk h1 hK hcf hcl hkey h8 hkm hnd hW hsg hSG hj HSG hSZ HAE
  go_enter Tryz.func9, Tryz.ntmps9
  go_upto_region 1 with (first | (refine wpList_alloc_of rfl 45 rfl (autL noA) zeroAuL ?_))
  change Code.wp _ _ _ _ (w.alloc (.cells (autV noA) 45))
  obtain ⟨w1, hw1⟩ : ∃ x, x = w.alloc (.cells (autV noA) 45) := ⟨_, rfl⟩
  rw [← hw1] at HX HB HH HSZ1 ⊢
  clear hw1
  go_wp2_with fail
  refine HH.out.mono ?_
  rintro r w2 ⟨rfl, hb⟩
  have HX2 := Lib.hid (HX.out.below hb)
  have HB2 := Lib.hid (HB.out.trans (hb.mono HB.out.size))
  have HS2 := Lib.hid (show w.heap.size + 1 ≤ w2.heap.size by rw [HSZ1.out]; exact hb.size)
  have c3 := HC3.out w2 HB2.out
  have HR := Lib.hid (HRG.out w2 HB2.out)
  clear hb HX HB HH HC3 HRG
  go_wp2_with (first
    | (refine wpList_load_id rfl 43 _ rfl gH (k * 32) HS _ rfl HR.out Tryz.underlying43 rfl HSI.out ?_)
    | (refine wpList_alloc_of rfl 43 rfl (nums .u8 zeroI) HZI.out ?_)
    | (refine wpList_store_nums rfl 43 _ _ rfl rfl w2.heap.size .u8 zeroI HS 43 rfl rfl (heap_alloc_new w2 _) HSI.out HLZ.out ?_))
  intro w4 hc hb
  have hb4 : Below w2.heap.size w2 w4 := But.toBelow ((Below.refl _ w2).alloc (Nat.le_refl _) _) hb.out (Nat.le_refl _) (by rw [World.size_alloc]; exact Nat.le_succ _)
  have HC4 := Lib.hid (show Blk w2.heap.size 43 .u8 HS w4 from hc.out)
  have HX4 := Lib.hid (HX2.out.below hb4)
  have HB4 := Lib.hid (HB2.out.trans (hb4.mono HB2.out.size))
  obtain ⟨gq, hgq⟩ : ∃ g, w2.heap.size = g := ⟨_, rfl⟩
  rw [hgq] at HC4 HS2 ⊢
  clear hc hb hb4 hgq HR c3 HX2 HB2
  have HK4 := Lib.hid (HKW.out.below HB4.out)
  have HQ0 := Lib.hid (fun (w' : World) (q : SS w4 w') => HC0.out w' (HB4.out.trans (q.1.mono HB4.out.size)))
  have HQ1 := Lib.hid (fun (w' : World) (q : SS w4 w') => HC1.out w' (HB4.out.trans (q.1.mono HB4.out.size)))
  have HQH := Lib.hid (fun (w' : World) (q : SS w4 w') => show Blk gq 43 .u8 HS w' from Cells.below HC4.out q.1)
  have HQS := Lib.hid (fun (w' : World) (q : SS w4 w') => HSW.out w' (HB4.out.trans (q.1.mono HB4.out.size)) q.2)
  go_upto_region 6 with (fail)
  refine wp_region_class (SS w4) (by kernel_rfl) (by kernel_rfl) (SS.start HK4.out) ?_
  repeat (first
    | (go_big_quiet_want; refine quiet_load_cell 66 _ rfl ⟨b, 1, none⟩ _ rfl HQ1.out Tryz.isAgg66 ?_; go_big_quiet_on; simp only [Act.put, List.setIfInBounds_toArray, List.set_cons_zero, List.set_cons_succ])
    | (go_big_quiet_want; refine quiet_load_cell 3 _ rfl ⟨b, 0, none⟩ _ rfl HQ0.out Tryz.isAgg3 ?_; go_big_quiet_on; simp only [Act.put, List.setIfInBounds_toArray, List.set_cons_zero, List.set_cons_succ])
    | (go_big_quiet_want; refine quiet_load_nums 43 _ rfl gq .u8 HS 43 _ rfl HQH.out Tryz.underlying43 rfl HSI.out ?_; go_big_quiet_on; simp only [Act.put, List.setIfInBounds_toArray, List.set_cons_zero, List.set_cons_succ])
    | go_big_quiet_step ((intro hs'; first
        | (go_at_call 28; exact (HIX.out _).mono fun e w' h => ⟨h.1, hs'.next h.2⟩)
        | (go_at_call 29; exact (HWD.out _).mono fun e w' h => ⟨h.1, hs'.next h.2⟩)
        | (go_at_call 27; exact (HQS.out _ hs').mono fun e w' h => ⟨h.1, hs'.next h.2⟩)
        | rfl)))
  refine wpQuiet_nil ?_
  intro w5 hs5
  have HX5 := Lib.hid (HX4.out.below hs5.1)
  have HC5 := Lib.hid (show Cells gq 43 (nums .u8 HS).toArray w5 from Cells.below HC4.out hs5.1)
  have HB5 := Lib.hid (HB4.out.trans (hs5.1.mono HB4.out.size))
  clear hs5 HX4 HC4 HB4 HK4 HQ0 HQ1 HQH HQS HIX HWD HSW
  go_upto_region 7 with (fail)
  have HGQ := Lib.hid (show w.heap.size ≠ gq from by have := HS2.out; omega)
  refine wp_region_free_all (fun q V w' => Vals q V [(0, .pointer (some ⟨b, 0, none⟩)), (1, .pointer (some ⟨b, 0, none⟩)), (2, .pointer (some ⟨b, 0, none⟩)), (3, .int .i64 nd), (4, .int .i64 (k : Int)), (5, .agg (nums .u8 HS).toArray), (6, .string ⟨SG.toArray⟩), (7, .agg (autV X)), (9, .int .i64 0)] ∧ Below w.heap.size w w' ∧ Slot q 8 w.heap.size 45 (autV noA) (autV X) w' ∧ Cells gq 43 (nums .u8 HS).toArray w') (fun | 0 => undef | 1 => undef | 2 => undef | 3 => undef | 4 => undef | 5 => undef | 6 => undef | 7 => undef | 8 => undef | 9 => .int .i64 0 | _ => undef) (by kernel_rfl) (by kernel_rfl) (by kernel_rfl) (by simp only [putAll, Act.put, List.setIfInBounds_toArray, List.set_cons_zero, List.set_cons_succ]) ⟨Vals.none, (HB5.out.drew), Slot.none (Cells.below HX5.out (Below.refl _ _).drew), Cells.below HC5.out (Below.refl _ _).drew⟩ ?_ ?_
  · simp only [putAll, Nat.zero_add, Nat.reduceAdd, Act.put, List.setIfInBounds_toArray, List.set_cons_zero, List.set_cons_succ]
    refine FreeSteps.cons ?_ (FreeSteps.cons ?_ (FreeSteps.cons ?_ (FreeSteps.cons ?_ (FreeSteps.cons ?_ (FreeSteps.cons ?_ (FreeSteps.cons ?_ (FreeSteps.cons ?_ (FreeSteps.cons ?_ (FreeSteps.cons ?_ (FreeSteps.nil))))))))))
    all_goals (refine FreeStep.fresh rfl ?_; rintro q V wq hr hu ⟨hVs, hb, hsl, hcq⟩ K hK)
    · exact op_move (.tmp 0) rfl _ rfl (hK _ _ ⟨hVs.set rfl, hb, hsl.ne (by decide) (Below.refl _ _), hcq⟩)
    · exact op_nilCheck (.tmp 41) rfl ⟨b, 0, none⟩ (hVs.get 0 (hr { on := 0, ground := .data } (by simp) rfl) rfl) (hK _ _ ⟨hVs.set rfl, hb, hsl.ne (by decide) (Below.refl _ _), hcq⟩)
    · exact op_fieldAt 78 (.tmp 42) 0 rfl _ _ (hVs.get 1 (hr { on := 1, ground := .data } (by simp) rfl) rfl) HFD.out (hK _ _ ⟨hVs.set rfl, hb, hsl.ne (by decide) (Below.refl _ _), hcq⟩)
    · exact op_load_cell 3 (.tmp 43) rfl _ _ (hVs.get 2 (hr { on := 2, ground := .data } (by simp) rfl) rfl) (HC0.out wq hb) Tryz.isAgg3 (hK _ _ ⟨hVs.set rfl, hb, hsl.ne (by decide) (Below.refl _ _), hcq⟩)
    · exact op_move (.tmp 1) rfl _ rfl (hK _ _ ⟨hVs.set rfl, hb, hsl.ne (by decide) (Below.refl _ _), hcq⟩)
    · exact op_load_nums 43 (.tmp 6) rfl gq .u8 HS 43 _ rfl hcq Tryz.underlying43 rfl HSI.out (hK _ _ ⟨hVs.set rfl, hb, hsl.ne (by decide) (Below.refl _ _), hcq⟩)
    · exact op_move (.tmp 7) rfl _ rfl (hK _ _ ⟨hVs.set rfl, hb, hsl.ne (by decide) (Below.refl _ _), hcq⟩)
    · exact op_build 45 #[(0, .tmp 44), (1, .tmp 45), (2, .tmp 46), (3, .tmp 47)] rfl [(0, .int .i64 nd), (1, .int .i64 (k : Int)), (2, .agg (nums .u8 HS).toArray), (3, .string ⟨SG.toArray⟩)] (autV X) (by
          have v3 := (hVs.get 3 (hr { on := 3, ground := .data } (by simp) rfl) rfl)
          have v4 := (hVs.get 4 (hr { on := 4, ground := .data } (by simp) rfl) rfl)
          have v5 := (hVs.get 5 (hr { on := 5, ground := .data } (by simp) rfl) rfl)
          have v6 := (hVs.get 6 (hr { on := 6, ground := .data } (by simp) rfl) rfl)
          rw [List.map_toArray]
          show [((0 : Nat), V 3), (1, V 4), (2, V 5), (3, V 6)].toArray = _
          rw [v3, v4, v5, v6]) HBX.out (hK _ _ ⟨hVs.set rfl, hb, hsl.ne (by decide) (Below.refl _ _), hcq⟩)
    · refine op_store_cells 45 (.tmp 4) (.tmp 48) rfl w.heap.size (autV noA) (autV X) 45 rfl (hVs.get 7 (hr { on := 7, ground := .data } (by simp) rfl) rfl) (hsl.not hu) HSX.out HSY.out (autV_all X) ?_
      intro w' hc' hbt
      exact (hK _ _ ⟨hVs.off rfl, But.toBelow hb hbt (Nat.le_refl _) hb.size, Slot.stored hc', hcq.but hbt HGQ.out.symm⟩)
    · exact op_assign (.const (.int .i64 0)) rfl _ rfl (hK _ _ ⟨hVs.set rfl, hb, hsl.ne (by decide) (Below.refl _ _), hcq⟩)
  rintro q V wq hall ⟨hVs, hb, hsl, hcq⟩
  have v0 := hVs.get 0 (hall 0 (by decide)) rfl
  have v1 := hVs.get 1 (hall 1 (by decide)) rfl
  have v2 := hVs.get 2 (hall 2 (by decide)) rfl
  have v3 := hVs.get 3 (hall 3 (by decide)) rfl
  have v4 := hVs.get 4 (hall 4 (by decide)) rfl
  have v5 := hVs.get 5 (hall 5 (by decide)) rfl
  have v6 := hVs.get 6 (hall 6 (by decide)) rfl
  have v7 := hVs.get 7 (hall 7 (by decide)) rfl
  obtain ⟨u8, v8⟩ : ∃ v, V 8 = v := ⟨_, rfl⟩
  have v9 := hVs.get 9 (hall 9 (by decide)) rfl
  have HXF := Lib.hid (hsl.all (hall 8 (by decide)))
  have HBF := Lib.hid hb
  simp only [putAll, Nat.zero_add, Nat.reduceAdd, v0, v1, v2, v3, v4, v5, v6, v7, v9, Act.put, List.setIfInBounds_toArray, List.set_cons_zero, List.set_cons_succ]
  clear hVs v0 v1 v2 v3 v4 v5 v6 v7 v8 v9 hall
  clear hsl hcq hb
  go_wp2_with fail
  refine bodyPost_ret (results_cells_tmp rfl _ _ w.heap.size (autV X) 45 _ _ rfl rfl HXF.out Tryz.underlying45 rfl HSX.out) rfl ?_
  exact ⟨rfl, HBF.out⟩
end Go.Proofs.YtpfhlhcnmeodbaaGreatDoor
namespace Go.Proofs.YtpfhlhcnmeodbaaGreatDoor
open Go.RowKit Go.BigFrame
section
variable {N : Nat} {O : Nat → Prop} {v : Value} {nd : Int} {seed : List UInt8} {h : Nat} {L : List EntN}
set_option maxHeartbeats 4000000 in
set_option maxRecDepth 100000 in
theorem dev_at (k : Nat) (e : EntN) (w : World) (l : LogIs N O v nd seed h L w) (hk : L[k]? = some e) (hm : L.length ≤ 1000000) :
    Calls Tryz.prog 15 #[v, .int .i64 ((k + 1 : Nat) : Int)] w fun r w' => r = .returned (.tuple #[.agg (entV e), .int .i64 0]) ∧ Below w.heap.size w w' := by
  have hlt := (List.getElem?_eq_some_iff.1 hk).1
  have hx : Cells w.heap.size 54 (entV noE) (w.alloc (.cells (entV noE) 54)) := heap_alloc_new w _
  have hb : Below w.heap.size w (w.alloc (.cells (entV noE) 54)) := (Below.refl _ _).alloc (Nat.le_refl _) _
  have HH := Lib.hid (dev_has ((k + 1 : Nat) : Int) _ (l.below hb))
  rw [decide_eq_true (show 1 ≤ ((k + 1 : Nat) : Int) ∧ ((k + 1 : Nat) : Int) ≤ (L.length : Int) by omega)] at HH
  obtain ⟨b, kv, vL, vH, rfl, -, la⟩ := l
  have HE := Lib.hid (la.ents.2 e (List.mem_of_getElem? hk))
  obtain ⟨ao, cap, rfl⟩ := la.ents.form
  have HX := Lib.hid hx
  have HB := Lib.hid hb
  have HAT := Lib.hid la.ents.at
  have HC2 := Lib.hid la.fields.2.2.1
  have HBL := Lib.hid la.cells.lt
  have HKE := Lib.hid hk
  have HZE := Lib.hid (show (Tryz.prog.info? 54).bind (·.zero) = some (.agg (entL noE).toArray) by kernel_rfl)
  have HSL := Lib.hid (sizeEL HE.out)
  have HSV := Lib.hid (sizeEV HE.out)
  obtain ⟨q, hq⟩ : ∃ q, ((k + 1 : Nat) : Int) = q := ⟨_, rfl⟩
  have hq1 : q - 1 = (k : Int) := by omega
  have HQ := Lib.hid hq1
  rw [hq] at HH ⊢
  generalize L.length = n at *
  clear la hk hx hb hq hq1
  go_enter Tryz.func15, Tryz.ntmps15
  go_upto_region 1 with (first | (refine wpList_alloc_of rfl 54 rfl (entL noE) HZE.out ?_))
  change Code.wp _ _ _ _ (w.alloc (.cells (entV noE) 54))
  obtain ⟨w1, hw1⟩ : ∃ x, x = w.alloc (.cells (entV noE) 54) := ⟨_, rfl⟩
  rw [← hw1] at HX HB HH ⊢
  clear hw1
  go_wp2_with fail
  refine HH.out.mono ?_
  rintro r w2 ⟨rfl, hb⟩
  have HX2 := Lib.hid (HX.out.below hb)
  have HB2 := Lib.hid (HB.out.trans (hb.mono HB.out.size))
  have c2 := (HB2.out.cell (p := ⟨b, 2, none⟩) HBL.out).trans HC2.out
  obtain ⟨bb, ob, rfl, hbl, hr⟩ := (HAT.out.below HB2.out).getM HKE.out
  have HR := Lib.hid hr
  have hsu := HQ.out
  clear hb HX HB HH hbl hr
  go_wp2_with (first
    | (refine wpList_load_mid rfl 54 _ rfl bb (ob + k * 73) rfl _ _ HR.out Tryz.underlying54 rfl HSL.out ?_)
    | (refine wpList_store_cells rfl 54 _ _ rfl rfl w.heap.size (entV noE) (entV e) 54 rfl rfl HX2.out HSV.out (by rw [entV_size HE.out]; rfl) (entV_all e) ?_))
  intro w3 hc hb
  have HXF := Lib.hid hc.out
  have HBF := Lib.hid (show Below w.heap.size w w3 from But.toBelow HB2.out hb.out (Nat.le_refl _) HB2.out.size)
  clear hc hb
  go_wp2_with fail
  refine bodyPost_ret (results_cells_tmp rfl _ _ w.heap.size (entV e) 54 _ _ rfl rfl HXF.out Tryz.underlying54 rfl HSV.out) rfl ?_
  exact ⟨rfl, HBF.out⟩
set_option maxHeartbeats 4000000 in
set_option maxRecDepth 100000 in
theorem dev_atNone (q : Int) (w : World) (l : LogIs N O v nd seed h L w) (hq : q < 1 ∨ (L.length : Int) < q) :
    Calls Tryz.prog 15 #[v, .int .i64 q] w fun r w' => r = .returned (.tuple #[.agg (entV noE), .int .i64 5]) ∧ Below w.heap.size w w' := by
  have hx : Cells w.heap.size 54 (entV noE) (w.alloc (.cells (entV noE) 54)) := heap_alloc_new w _
  have hb : Below w.heap.size w (w.alloc (.cells (entV noE) 54)) := (Below.refl _ _).alloc (Nat.le_refl _) _
  have HH := Lib.hid (dev_has q _ (l.below hb))
  rw [decide_eq_false (show ¬ (1 ≤ q ∧ q ≤ (L.length : Int)) by omega)] at HH
  obtain ⟨a, rfl⟩ := l.ptr
  have HX := Lib.hid hx
  have HB := Lib.hid hb
  have HZE := Lib.hid (show (Tryz.prog.info? 54).bind (·.zero) = some (.agg (entL noE).toArray) by kernel_rfl)
  have HS := Lib.hid (sizeEV noE_ok)
  clear hx hb l hq
  go_enter Tryz.func15, Tryz.ntmps15
  go_upto_region 1 with (first | (refine wpList_alloc_of rfl 54 rfl (entL noE) HZE.out ?_))
  change Code.wp _ _ _ _ (w.alloc (.cells (entV noE) 54))
  obtain ⟨w1, hw1⟩ : ∃ x, x = w.alloc (.cells (entV noE) 54) := ⟨_, rfl⟩
  rw [← hw1] at HX HB HH ⊢
  clear hw1
  go_wp2_with fail
  refine HH.out.mono ?_
  rintro r w2 ⟨rfl, hb⟩
  have HX2 := Lib.hid (HX.out.below hb)
  have HB2 := Lib.hid (HB.out.trans (hb.mono HB.out.size))
  clear hb HX HB HH
  go_wp2_with (first
    | (refine wpList_build_val rfl 54 #[] rfl [] _ (by simp) built_ent0 ?_)
    | (refine wpList_store_cells rfl 54 _ _ rfl rfl w.heap.size (entV noE) (entV noE) 54 rfl rfl HX2.out HS.out rfl (entV_all noE) ?_))
  intro w3 hc hb
  have HXF := Lib.hid hc.out
  have HBF := Lib.hid (show Below w.heap.size w w3 from But.toBelow HB2.out hb.out (Nat.le_refl _) HB2.out.size)
  clear hc hb
  go_wp2_with fail
  refine bodyPost_ret (results_cells_tmp rfl _ _ w.heap.size (entV noE) 54 _ _ rfl rfl HXF.out Tryz.underlying54 rfl HS.out) rfl ?_
  exact ⟨rfl, HBF.out⟩
end
theorem dev_at_nil (w : World) : Calls Tryz.prog 15 #[.pointer none, .int .i64 1] w fun r w' => r = .returned (.tuple #[.agg (entV noE), .int .i64 2]) ∧ Below w.heap.size w w' := by
  have hx : Cells w.heap.size 54 (entV noE) (w.alloc (.cells (entV noE) 54)) := heap_alloc_new w _
  have hb : Below w.heap.size w (w.alloc (.cells (entV noE) 54)) := (Below.refl _ _).alloc (Nat.le_refl _) _
  have HX := Lib.hid hx
  have HB := Lib.hid hb
  have HZE := Lib.hid (show (Tryz.prog.info? 54).bind (·.zero) = some (.agg (entL noE).toArray) by kernel_rfl)
  have HS := Lib.hid (sizeEV noE_ok)
  clear hx hb
  go_enter Tryz.func15, Tryz.ntmps15
  go_upto_region 1 with (first | (refine wpList_alloc_of rfl 54 rfl (entL noE) HZE.out ?_))
  change Code.wp _ _ _ _ (w.alloc (.cells (entV noE) 54))
  obtain ⟨w1, hw1⟩ : ∃ x, x = w.alloc (.cells (entV noE) 54) := ⟨_, rfl⟩
  rw [← hw1] at HX HB ⊢
  clear hw1
  go_wp2_with (first
    | (refine wpList_build_val rfl 54 #[] rfl [] _ (by simp) built_ent0 ?_)
    | (refine wpList_store_cells rfl 54 _ _ rfl rfl w.heap.size (entV noE) (entV noE) 54 rfl rfl HX.out HS.out rfl (entV_all noE) ?_))
  intro w3 hc hb
  have HXF := Lib.hid hc.out
  have HBF := Lib.hid (show Below w.heap.size w w3 from But.toBelow HB.out hb.out (Nat.le_refl _) HB.out.size)
  clear hc hb
  go_wp2_with fail
  refine bodyPost_ret (results_cells_tmp rfl _ _ w.heap.size (entV noE) 54 _ _ rfl rfl HXF.out Tryz.underlying54 rfl HS.out) rfl ?_
  exact ⟨rfl, HBF.out⟩
theorem built_id16 : Tryz.prog.built 43 [] = some (nums .u8 zeroI).toArray := by kernel_rfl
section
variable {N : Nat} {O : Nat → Prop} {v : Value} {nd : Int} {seed : List UInt8} {h : Nat} {L : List EntN}
set_option maxHeartbeats 4000000 in
set_option maxRecDepth 100000 in
theorem dev_hash (k : Nat) (w : World) (l : LogIs N O v nd seed h L w) (hk : k ≤ L.length) (hm : L.length ≤ 1000000) :
    Calls Tryz.prog 16 #[v, .int .i64 k] w fun r w' => r = .returned (.tuple #[.agg (nums .u8 (hashL L k)).toArray, .int .i64 0]) ∧ Below w.heap.size w w' := by
  have hx : Cells w.heap.size 43 (nums .u8 zeroI).toArray (w.alloc (.cells (nums .u8 zeroI).toArray 43)) := heap_alloc_new w _
  have hb : Below w.heap.size w (w.alloc (.cells (nums .u8 zeroI).toArray 43)) := (Below.refl _ _).alloc (Nat.le_refl _) _
  have HH := Lib.hid (dev_has (k : Int) _ (l.below hb))
  obtain ⟨b, kv, vL, vH, rfl, -, la⟩ := l
  obtain ⟨gH, cH, rfl, -, hgl⟩ := la.ids.formB (by rw [allH_len]; exact Nat.succ_pos _)
  obtain ⟨n1, hn1⟩ : ∃ x, (allH L).length = x := ⟨_, rfl⟩
  have HN1 := Shut.mk hn1
  have hnk : k < n1 := by rw [← hn1, allH_len]; omega
  rw [hn1] at la
  have HX := Lib.hid hx
  have HB := Lib.hid hb
  have HRG := Lib.hid (fun (w' : World) (q : Below w.heap.size w w') => show w'.rangeAt gH (k * 32) (nums .u8 (hashL L k)) from by
    have h1 := IAt.get ((la.ids.below q).at (allH_ok L)) (i := k) (by rw [hn1]; exact hnk)
    rw [allH_getD L hk, Nat.zero_add] at h1
    exact h1)
  have HC3 := Lib.hid la.fields.2.2.2
  have HBL := Lib.hid la.cells.lt
  have HHS := Lib.hid (hashL_ok L k)
  have HSI := Lib.hid (show (Tryz.prog.info? 43).map (·.size) = some (hashL L k).length by rw [HHS.out.1]; exact Tryz.sizeI)
  have HLZ := Lib.hid (show zeroI.length = (hashL L k).length by rw [HHS.out.1]; rfl)
  have HZE := Lib.hid (show (Tryz.prog.info? 43).bind (·.zero) = some (.agg (nums .u8 zeroI).toArray) by kernel_rfl)
  have HSZ := Lib.hid (show (Tryz.prog.info? 43).map (·.size) = some zeroI.length from Tryz.sizeI)
  obtain ⟨HS, hhs⟩ : ∃ x, hashL L k = x := ⟨_, rfl⟩
  rw [hhs] at HRG HSI HLZ ⊢
  have hkb : k ≤ 1000000 := by omega
  have HKN := Lib.hid hk
  generalize L.length = n at *
  clear la hx hb hgl hhs hn1 hk hm
  go_enter Tryz.func16, Tryz.ntmps16
  go_upto_region 1 with (first | (refine wpList_alloc_of rfl 43 rfl (nums .u8 zeroI) HZE.out ?_))
  change Code.wp _ _ _ _ (w.alloc (.cells (nums .u8 zeroI).toArray 43))
  obtain ⟨w1, hw1⟩ : ∃ x, x = w.alloc (.cells (nums .u8 zeroI).toArray 43) := ⟨_, rfl⟩
  rw [← hw1] at HX HB HH ⊢
  clear hw1
  by_cases k0 : k = 0
  · have g0 : ((k : Int) != 0) = false := by simp [k0]
    obtain ⟨w2, hw2⟩ : ∃ x, x = w1 := ⟨_, rfl⟩
    rw [← hw2] at HX HB ⊢
    have HX2 := HX
    have HB2 := HB
    clear hw2 HX HB k0
    have c3 := (HB2.out.cell (p := ⟨b, 3, none⟩) HBL.out).trans HC3.out
    have hr := HRG.out w2 HB2.out
    have HR := Lib.hid hr
    clear hr HH
    go_wp2_with (first
      | (refine wpList_load_id rfl 43 _ rfl gH (k * 32) HS _ rfl HR.out Tryz.underlying43 rfl HSI.out ?_)
      | (refine wpList_store_nums rfl 43 _ _ rfl rfl w.heap.size .u8 zeroI HS 43 rfl rfl HX2.out HSI.out HLZ.out ?_))
    intro w3 hc hb
    have HXF := Lib.hid (show Blk w.heap.size 43 .u8 HS w3 from hc.out)
    have HBF := Lib.hid (show Below w.heap.size w w3 from But.toBelow HB2.out hb.out (Nat.le_refl _) HB2.out.size)
    clear hc hb
    go_wp2_with fail
    refine bodyPost_ret (results_nums_tmp rfl _ _ w.heap.size .u8 HS 43 _ _ rfl rfl HXF.out Tryz.underlying43 rfl HSI.out) rfl ?_
    exact ⟨rfl, HBF.out⟩
  · have g0 : ((k : Int) != 0) = true := by simp; omega
    rw [decide_eq_true (show 1 ≤ (k : Int) ∧ (k : Int) ≤ (n : Int) by have := HKN.out; omega)] at HH
    clear k0
    go_wp2_with fail
    refine HH.out.mono ?_
    rintro r w2 ⟨rfl, hb⟩
    have HX2 := Lib.hid (HX.out.below hb)
    have HB2 := Lib.hid (HB.out.trans (hb.mono HB.out.size))
    clear hb HX HB
    have c3 := (HB2.out.cell (p := ⟨b, 3, none⟩) HBL.out).trans HC3.out
    have hr := HRG.out w2 HB2.out
    have HR := Lib.hid hr
    clear hr HH
    go_wp2_with (first
      | (refine wpList_load_id rfl 43 _ rfl gH (k * 32) HS _ rfl HR.out Tryz.underlying43 rfl HSI.out ?_)
      | (refine wpList_store_nums rfl 43 _ _ rfl rfl w.heap.size .u8 zeroI HS 43 rfl rfl HX2.out HSI.out HLZ.out ?_))
    intro w3 hc hb
    have HXF := Lib.hid (show Blk w.heap.size 43 .u8 HS w3 from hc.out)
    have HBF := Lib.hid (show Below w.heap.size w w3 from But.toBelow HB2.out hb.out (Nat.le_refl _) HB2.out.size)
    clear hc hb
    go_wp2_with fail
    refine bodyPost_ret (results_nums_tmp rfl _ _ w.heap.size .u8 HS 43 _ _ rfl rfl HXF.out Tryz.underlying43 rfl HSI.out) rfl ?_
    exact ⟨rfl, HBF.out⟩
set_option maxHeartbeats 4000000 in
set_option maxRecDepth 100000 in
theorem dev_hashNone (q : Int) (w : World) (l : LogIs N O v nd seed h L w) (hq : q < 0 ∨ (L.length : Int) < q) :
    Calls Tryz.prog 16 #[v, .int .i64 q] w fun r w' => r = .returned (.tuple #[.agg (nums .u8 zeroI).toArray, .int .i64 5]) ∧ Below w.heap.size w w' := by
  have hx : Cells w.heap.size 43 (nums .u8 zeroI).toArray (w.alloc (.cells (nums .u8 zeroI).toArray 43)) := heap_alloc_new w _
  have hb : Below w.heap.size w (w.alloc (.cells (nums .u8 zeroI).toArray 43)) := (Below.refl _ _).alloc (Nat.le_refl _) _
  have HH := Lib.hid (dev_has q _ (l.below hb))
  rw [decide_eq_false (show ¬ (1 ≤ q ∧ q ≤ (L.length : Int)) by omega)] at HH
  obtain ⟨a, rfl⟩ := l.ptr
  have HX := Lib.hid hx
  have HB := Lib.hid hb
  have HZE := Lib.hid (show (Tryz.prog.info? 43).bind (·.zero) = some (.agg (nums .u8 zeroI).toArray) by kernel_rfl)
  have HSZ := Lib.hid (show (Tryz.prog.info? 43).map (·.size) = some zeroI.length from Tryz.sizeI)
  have g0 : (q != 0) = true := by simp; omega
  clear hx hb l hq
  go_enter Tryz.func16, Tryz.ntmps16
  go_upto_region 1 with (first | (refine wpList_alloc_of rfl 43 rfl (nums .u8 zeroI) HZE.out ?_))
  change Code.wp _ _ _ _ (w.alloc (.cells (nums .u8 zeroI).toArray 43))
  obtain ⟨w1, hw1⟩ : ∃ x, x = w.alloc (.cells (nums .u8 zeroI).toArray 43) := ⟨_, rfl⟩
  rw [← hw1] at HX HB HH ⊢
  clear hw1
  go_wp2_with fail
  refine HH.out.mono ?_
  rintro r w2 ⟨rfl, hb⟩
  have HX2 := Lib.hid (HX.out.below hb)
  have HB2 := Lib.hid (HB.out.trans (hb.mono HB.out.size))
  clear hb HX HB HH
  go_wp2_with (first
    | (refine wpList_build_val rfl 43 #[] rfl [] _ (by simp) built_id16 ?_)
    | (refine wpList_store_nums rfl 43 _ _ rfl rfl w.heap.size .u8 zeroI zeroI 43 rfl rfl HX2.out HSZ.out rfl ?_))
  intro w3 hc hb
  have HXF := Lib.hid (show Blk w.heap.size 43 .u8 zeroI w3 from hc.out)
  have HBF := Lib.hid (show Below w.heap.size w w3 from But.toBelow HB2.out hb.out (Nat.le_refl _) HB2.out.size)
  clear hc hb
  go_wp2_with fail
  refine bodyPost_ret (results_nums_tmp rfl _ _ w.heap.size .u8 zeroI 43 _ _ rfl rfl HXF.out Tryz.underlying43 rfl HSZ.out) rfl ?_
  exact ⟨rfl, HBF.out⟩
end
theorem dev_hash_nil (w : World) : Calls Tryz.prog 16 #[.pointer none, .int .i64 0] w fun r w' => r = .returned (.tuple #[.agg (nums .u8 zeroI).toArray, .int .i64 2]) ∧ Below w.heap.size w w' := by
  have hx : Cells w.heap.size 43 (nums .u8 zeroI).toArray (w.alloc (.cells (nums .u8 zeroI).toArray 43)) := heap_alloc_new w _
  have hb : Below w.heap.size w (w.alloc (.cells (nums .u8 zeroI).toArray 43)) := (Below.refl _ _).alloc (Nat.le_refl _) _
  have HX2 := Lib.hid hx
  have HB2 := Lib.hid hb
  have HZE := Lib.hid (show (Tryz.prog.info? 43).bind (·.zero) = some (.agg (nums .u8 zeroI).toArray) by kernel_rfl)
  have HSZ := Lib.hid (show (Tryz.prog.info? 43).map (·.size) = some zeroI.length from Tryz.sizeI)
  clear hx hb
  go_enter Tryz.func16, Tryz.ntmps16
  go_upto_region 1 with (first | (refine wpList_alloc_of rfl 43 rfl (nums .u8 zeroI) HZE.out ?_))
  change Code.wp _ _ _ _ (w.alloc (.cells (nums .u8 zeroI).toArray 43))
  obtain ⟨w1, hw1⟩ : ∃ x, x = w.alloc (.cells (nums .u8 zeroI).toArray 43) := ⟨_, rfl⟩
  rw [← hw1] at HX2 HB2 ⊢
  clear hw1
  go_wp2_with (first
    | (refine wpList_build_val rfl 43 #[] rfl [] _ (by simp) built_id16 ?_)
    | (refine wpList_store_nums rfl 43 _ _ rfl rfl w.heap.size .u8 zeroI zeroI 43 rfl rfl HX2.out HSZ.out rfl ?_))
  intro w3 hc hb
  have HXF := Lib.hid (show Blk w.heap.size 43 .u8 zeroI w3 from hc.out)
  have HBF := Lib.hid (show Below w.heap.size w w3 from But.toBelow HB2.out hb.out (Nat.le_refl _) HB2.out.size)
  clear hc hb
  go_wp2_with fail
  refine bodyPost_ret (results_nums_tmp rfl _ _ w.heap.size .u8 zeroI 43 _ _ rfl rfl HXF.out Tryz.underlying43 rfl HSZ.out) rfl ?_
  exact ⟨rfl, HBF.out⟩
end Go.Proofs.YtpfhlhcnmeodbaaGreatDoor
namespace Go.Proofs.YtpfhlhcnmeodbaaGreatDoor
open Go.RowKit Go.BigFrame
theorem EntN.In.len16 {e : EntN} (h : e.In) : e.Len := ⟨h.ok, h.d.key, h.d.val, h.pay, h.sig⟩
theorem built_out16 : Tryz.prog.built 54 [(0, .int .i64 3), (5, .int .i64 1)] = some (entV (outE 1 [])) := by
  rw [ent_fill, fill_kind, fill_mask (ha := ⟨zeroI_ok, zeroI_ok⟩), fill_end]
  rfl
theorem wpList_build_wide_want {P : Program} {w : World} {ops : Array Oper} {rest : List Oper} {o : Oper} {a : Act} {Q : Exit → Act → World → Prop} (hw : Region.wanted o (yielded ops a.tmps) = true) (t e : TypeId) (x : Operand) (ho : o.op = .buildSlice t 1 #[(0, x)]) (us : List Value) (hx : a.eval x = .agg us.toArray)
    (hr : ∀ w, (Instr.buildSlice t 1 #[(0, .agg us.toArray)]).run P w = .ok (.slice (some ⟨w.heap.size, 0, none⟩) 1 1) (w.alloc (.cells us.toArray e)))
    (h : ∀ w', Hid (Cells w.heap.size e us.toArray w') → Hid (Below w.heap.size w w') → wpList P ops Q rest (a.put o.dst (.slice (some ⟨w.heap.size, 0, none⟩) 1 1)) w') : wpList P ops Q (o :: rest) a w :=
  BigFrame.wpList_want hw fun _ hK => (show OpWp P { o with guard := none } a w _ _ from op_build_wide (o := { o with guard := none }) t e x ho us hx hr (hK _ _ (h _ (Lib.hid (heap_alloc_new w _)) (Lib.hid ((Below.refl _ _).alloc (Nat.le_refl _) _))))).out
theorem alive16_app : appE 1 [] [outE 1 []] = 0 := by
  rw [appE, if_pos, if_pos (by decide)]
  intro x hx
  obtain rfl := List.mem_singleton.1 hx
  exact .inr (.inr ⟨rfl, ⟨by decide, by decide, by decide⟩, rfl, rfl, rfl, rfl, rfl⟩)
set_option maxHeartbeats 4000000 in
set_option maxRecDepth 100000 in
theorem alive16_any (w : World) (hk : KAt w) : Calls Tryz.prog 4 #[] w fun e w' => e = .returned (.bool true) ∧ Below w.heap.size w w' := by
  have HK := Lib.hid hk
  have HG := Lib.hid hk.lt
  clear hk
  have HZ := Lib.hid (show (Tryz.prog.info? 45).bind (·.zero) = some (.agg (autL noA).toArray) by kernel_rfl)
  have HS := Lib.hid (sizeAV (a := noA) zeroI_ok)
  go_enter Tryz.func4, Tryz.ntmps4
  go_wp2_with fail
  refine (dev_new [115, 101, 101, 100] 1 w (by decide) (by decide) (by decide) HK.out).mono ?_
  rintro e w1 ⟨⟨kv, rfl, hv⟩, hb1⟩
  obtain ⟨ka, rfl⟩ := hv.ptr
  have HV := Lib.hid hv
  have HB1 := Lib.hid hb1
  have HK1 := Lib.hid (HK.out.below hb1)
  clear hv hb1
  go_wp2_with fail
  refine (dev_newLog 0 _ [115, 101, 101, 100] 1 w1 HV.out (by decide) (by decide)).mono ?_
  rintro e w2 ⟨⟨v, O, rfl, hl, hO⟩, hb2⟩
  obtain ⟨a, rfl⟩ := hl.ptr
  have HL2 := Lib.hid hl
  have HB2 := Lib.hid (HB1.out.trans (hb2.mono HB1.out.size))
  have HW1 := Lib.hid HB1.out.size
  clear hl hO hb2 HV HB1
  go_wp2_with fail
  refine (dev_authNone 1 w2 HL2.out (.inr (by decide))).mono ?_
  rintro e w3 ⟨rfl, hb3⟩
  have HL3 := Lib.hid (HL2.out.below hb3)
  have HB3 := Lib.hid (HB2.out.trans (hb3.mono HB2.out.size))
  clear hb3 HL2 HB2
  go_wp2_with (first
    | (refine wpList_alloc_of rfl 45 rfl (autL noA) HZ.out ?_)
    | (refine wpList_store_cells rfl 45 _ _ rfl rfl w3.heap.size (autV noA) (autV noA) 45 rfl rfl (heap_alloc_new w3 _) HS.out rfl (autV_all noA) ?_))
  intro w4 hc4 hb4
  have hb44 : Below w3.heap.size w3 w4 := But.toBelow ((Below.refl _ w3).alloc (Nat.le_refl _) _) hb4.out (Nat.le_refl _) (by rw [World.size_alloc]; exact Nat.le_succ _)
  have HL4 := Lib.hid (HL3.out.below hb44)
  have HB4 := Lib.hid (HB3.out.trans (hb44.mono HB3.out.size))
  clear hc4 hb4 hb44 HL3 HB3
  go_wp2_with fail
  refine (dev_left w4 HL4.out (by decide)).mono ?_
  rintro e w5 ⟨rfl, hb5⟩
  rw [show (((2 ^ 1 - ([] : List EntN).length : Nat)) : Int) = 2 from rfl]
  have HL5 := Lib.hid (HL4.out.below hb5)
  have HB5 := Lib.hid (HB4.out.trans (hb5.mono HB4.out.size))
  clear hb5 HL4 HB4
  have HBE := Lib.hid (fun w' => built_ent1 (outE 1 []) (outE_ok 1 []) w')
  go_wp2_with (first
    | (refine wpList_build_want (by rfl) 54 _ rfl [(0, .int .i64 3), (5, .int .i64 1)] _ (by rw [List.map_toArray]; rfl) built_out16 ?_)
    | (refine wpList_build_wide_want (by rfl) 35 54 _ rfl (entL (outE 1 [])) rfl HBE.out ?_))
  intro w6 hc6 hb6
  have HL6 := Lib.hid (HL5.out.below hb6.out)
  have HB6 := Lib.hid (HB5.out.trans (hb6.out.mono HB5.out.size))
  have HC6 := Lib.hid hc6.out
  have HK6 := Lib.hid (HK.out.below HB6.out)
  have HAP := Lib.hid (dev_append (some ⟨w5.heap.size, 0, none⟩) [outE 1 []] 1 w6 HL6.out (by decide) (fun x hx => by cases hx) (fun x hx => by
    obtain rfl := List.mem_singleton.1 hx
    exact ⟨⟨outE_ok 1 [], by decide, by decide, by decide, by decide⟩, by decide⟩) (by decide) (.inr ⟨w5.heap.size, 0, rfl, HC6.out.lt, fun i c hc => by
      have hi : i = 0 := by
        have := (List.getElem?_eq_some_iff.1 hc).1
        simpa using this
      subst hi
      obtain rfl : entL (outE 1 []) = c := by simpa using hc
      simpa using cells_range HC6.out⟩) (fun h => by cases h) (fun _ a ha => by
        cases ha
        intro hO
        exact Nat.lt_irrefl _ (HL5.out.lt _ hO)) HK6.out (Nat.lt_of_lt_of_le HG.out HW1.out))
  rw [show appL 1 [] [outE 1 []] = [outE 1 []] by rw [appL, if_pos alive16_app]; rfl, alive16_app] at HAP
  have HLATE := Lib.hid (fun x hx => Nat.le_trans HW1.out (HL6.out.late x hx))
  clear hc6 hb6 HL5 HB5 HBE
  go_wp2_with fail
  refine HAP.out.mono ?_
  rintro e w7 ⟨rfl, O', hl7, ht7⟩
  have HL7 := Lib.hid hl7
  have HB7 := Lib.hid (Only.toBelow HB6.out ht7.only HLATE.out HB6.out.size)
  clear hl7 ht7 HAP HL6 HB6 HLATE
  go_wp2_with fail
  refine (dev_len w7 HL7.out).mono ?_
  rintro e w8 ⟨rfl, hb8⟩
  rw [show (([outE 1 []] : List EntN).length : Int) = 1 from rfl]
  have HB8 := Lib.hid (HB7.out.trans (hb8.mono HB7.out.size))
  clear hb8 HL7 HB7
  go_wp2_with fail
  go_ret
  exact ⟨rfl, HB8.out⟩
def SmallE (L : List EntN) : Prop := L.length ≤ 12 ∧ ∀ e ∈ L, e.pay.length + e.sig.length + (e.d.key.length + e.d.val.length) ≤ 4096
set_option maxHeartbeats 4000000 in
set_option maxRecDepth 100000 in
theorem great16_any (ao : Option Addr) (L : List EntN) (c : Nat) (w : World) (hL : ∀ x ∈ L, x.Len) (hn : L.length ≤ 140737488351232) (hat : EntsAt ao L w) :
    Calls Tryz.prog 7 #[.slice ao L.length c] w fun e w' => (∃ z, e = .returned (.bool z) ∧ (z = false → SmallE L)) ∧ Below w.heap.size w w' := by
  have HP := Lib.hid hat
  have HLL := Lib.hid hL
  obtain ⟨n, hnn⟩ : ∃ n, L.length = n := ⟨_, rfl⟩
  have HN := Shut.mk hnn
  rw [hnn] at hn ⊢
  have HZE := Lib.hid (show (Tryz.prog.info? 54).bind (·.zero) = some (.agg (entL noE).toArray) by kernel_rfl)
  clear hat hL hnn
  go_enter Tryz.func7, Tryz.ntmps7
  go_wp2_with fail
  go_loopw [3, 8] (fun s j wr => ∃ k m : Nat, k ≤ n ∧ j = .int .i64 k ∧ s = .int .i64 m ∧ m ≤ 4096 ∧ (∀ e ∈ L.take k, e.pay.length + e.sig.length + (e.d.key.length + e.d.val.length) ≤ 4096) ∧ Below w.heap.size w wr) (fun _ j _ => n - (intOf j).toNat)
  case atStart => exact ⟨0, 0, Nat.zero_le _, rfl, rfl, by decide, by simp, Below.refl _ _⟩
  case round =>
    obtain ⟨k, m, hk, rfl, rfl, hm, hall, hb⟩ := hrel
    have HA := Lib.hid hall
    have HBW := Lib.hid hb
    have HPW := Lib.hid (HP.out.below hb)
    clear hb hall
    by_cases hkn : k < n
    · obtain ⟨y, hy⟩ : ∃ y, L[k]? = some y := ⟨_, List.getElem?_eq_getElem (by rw [HN.out]; exact hkn)⟩
      have HTK := Shut.mk (show L.take (k + 1) = L.take k ++ [y] by
        have h1 : L[k]'(by rw [HN.out]; exact hkn) = y := by
          rw [List.getElem?_eq_getElem (by rw [HN.out]; exact hkn)] at hy
          exact Option.some.inj hy
        rw [List.take_succ_eq_append_getElem (by rw [HN.out]; exact hkn), h1])
      have HY := Lib.hid (HLL.out y (List.mem_of_getElem? hy))
      obtain ⟨b, ob, rfl, hbl, hr⟩ := HPW.out.getM hy
      have HR := Lib.hid hr
      have HSL := Lib.hid (sizeEL HY.out.ok)
      have HSV := Lib.hid (sizeEV HY.out.ok)
      clear hy hbl hr
      go_wp2_with (first
        | (refine wpList_load_mid rfl 54 _ rfl b (ob + k * 73) rfl _ _ HR.out Tryz.underlying54 rfl HSL.out ?_)
        | (refine wpList_alloc_of rfl 54 rfl (entL noE) HZE.out ?_)
        | (refine wpList_store_cells rfl 54 _ _ rfl rfl wr.heap.size (entV noE) (entV y) 54 rfl rfl (heap_alloc_new wr _) HSV.out (by rw [entV_size HY.out.ok]; rfl) (entV_all y) ?_))
      intro w4 hc hb
      have hb4 : Below wr.heap.size wr w4 := But.toBelow ((Below.refl _ wr).alloc (Nat.le_refl _) _) hb.out (Nat.le_refl _) (by rw [World.size_alloc]; exact Nat.le_succ _)
      have HB4 := Lib.hid (HBW.out.trans (hb4.mono HBW.out.size))
      obtain ⟨_, cd, _, _, _, _, c71, c72⟩ := ent_cells HY.out.ok hc.out
      obtain ⟨_, c2, c3, _⟩ := draft_mid cd
      have h1 := HY.out.pay
      have h2 := HY.out.sig
      have h3 := HY.out.key
      have h4 := HY.out.val
      obtain ⟨g5, hg5⟩ : ∃ g, wr.heap.size = g := ⟨_, rfl⟩
      rw [hg5] at c71 c72 c2 c3 ⊢
      obtain ⟨yl, hyl⟩ : ∃ n, y.pay.length = n := ⟨_, rfl⟩
      obtain ⟨sl, hsl⟩ : ∃ n, y.sig.length = n := ⟨_, rfl⟩
      obtain ⟨kl, hkl⟩ : ∃ n, y.d.key.length = n := ⟨_, rfl⟩
      obtain ⟨vl, hvl⟩ : ∃ n, y.d.val.length = n := ⟨_, rfl⟩
      have HYS := Shut.mk (show y.pay.length + y.sig.length + (y.d.key.length + y.d.val.length) = yl + sl + (kl + vl) by rw [hyl, hsl, hkl, hvl])
      rw [hyl] at h1
      rw [hsl] at h2
      rw [hkl] at h3
      rw [hvl] at h4
      clear hc hb hb4 hg5 HBW HPW HR HSL cd
      by_cases hbig : 4096 < m + (yl + sl + kl + vl)
      · have hbi : decide ((4096 : Int) < (m : Int) + ((yl : Int) + sl + kl + vl)) = true := decide_eq_true (by omega)
        go_wp2_with fail
        go_ret
        exact ⟨⟨true, rfl, fun h => by cases h⟩, HB4.out⟩
      · have hbi : decide ((4096 : Int) < (m : Int) + ((yl : Int) + sl + kl + vl)) = false := decide_eq_false (by omega)
        go_wp2_with fail
        refine ⟨⟨k + 1, m + (yl + sl + kl + vl), by omega, by go_num, by go_num, by omega, ?_, HB4.out⟩, by simp [intOf]; omega⟩
        rw [HTK.out]
        intro e he
        rcases List.mem_append.1 he with he | he
        · exact HA.out e he
        · obtain rfl := List.mem_singleton.1 he
          rw [HYS.out]
          omega
    · obtain rfl : k = n := by omega
      have HT := Lib.hid (show ∀ e ∈ L, e.pay.length + e.sig.length + (e.d.key.length + e.d.val.length) ≤ 4096 from fun e he => HA.out e (by rw [List.take_of_length_le (by rw [HN.out]; exact Nat.le_refl _)]; exact he))
      by_cases h12 : 12 < k
      · have h12i : decide ((12 : Int) < (k : Int)) = true := decide_eq_true (by omega)
        go_wp2_with fail
        go_ret
        exact ⟨⟨true, rfl, fun h => by cases h⟩, HBW.out⟩
      · have h12i : decide ((12 : Int) < (k : Int)) = false := decide_eq_false (by omega)
        go_wp2_with fail
        go_ret
        exact ⟨⟨false, rfl, fun _ => ⟨by rw [HN.out]; omega, HT.out⟩⟩, HBW.out⟩
end Go.Proofs.YtpfhlhcnmeodbaaGreatDoor
namespace Go.Proofs.YtpfhlhcnmeodbaaGreatDoor
open Go.RowKit Go.BigFrame
def Pair (B : Nat) (w0 : World) (vd : Value) (g : Nat) (nd : Int) (seed : List UInt8) (h : Nat) (L : List EntN) (w : World) : Prop :=
  ∃ N O R, LogIs N O vd nd seed h L w ∧ RLog R g nd seed h L w ∧ (∀ x, O x → ¬ R x) ∧ B ≤ N ∧ (∀ x, R x → N ≤ x) ∧ Below B w0 w
theorem Pair.ptr {B : Nat} {w0 : World} {vd : Value} {g : Nat} {nd : Int} {seed : List UInt8} {h : Nat} {L : List EntN} {w : World} (p : Pair B w0 vd g nd seed h L w) : ∃ a, vd = .pointer (some a) := by
  obtain ⟨N, O, R, hl, _⟩ := p
  exact hl.ptr
theorem built_log (nd : Int) (seed : List UInt8) (la : Option Addr) (n c : Nat) : Tryz.prog.built 37 [(0, .int .i64 nd), (1, .string ⟨seed.toArray⟩), (2, .slice la n c)] = some #[.int .i64 nd, .string ⟨seed.toArray⟩, .slice la n c, .slice none 0 0] := by kernel_rfl
set_option maxHeartbeats 4000000 in
set_option maxRecDepth 100000 in
theorem logs16_any (nd : Int) (seed : List UInt8) (h : Nat) (w : World) (hk : KAt w) (h0 : 0 ≤ nd) (h4 : nd ≤ 4) (hs : seed.length ≤ 64) (h1 : 1 ≤ h) (h8 : h ≤ 8) :
    Calls Tryz.prog 5 #[.int .i64 nd, .string ⟨seed.toArray⟩, .int .i64 (h : Int)] w fun e w' => ∃ vd g, e = .returned (.tuple #[vd, .pointer (some ⟨g, 0, none⟩), .bool true]) ∧ Pair w.heap.size w vd g nd seed h [] w' := by
  have HK := Lib.hid hk
  have HW := Lib.hid (show wideN (h : Int) = 2 ^ h from wideN_ok h1 h8)
  go_enter Tryz.func5, Tryz.ntmps5
  go_wp2_with fail
  refine (dev_new seed h w hs h1 h8 HK.out).mono ?_
  rintro e w1 ⟨⟨kv, rfl, hv⟩, hb1⟩
  obtain ⟨ka, rfl⟩ := hv.ptr
  have HV := Lib.hid hv
  have HB1 := Lib.hid hb1
  clear hv hb1
  go_wp2_with fail
  refine (dev_newLog nd _ seed h w1 HV.out h0 h4).mono ?_
  rintro e w2 ⟨⟨v, O, rfl, hl, hO⟩, hb2⟩
  obtain ⟨a, rfl⟩ := hl.ptr
  have HL2 := Lib.hid hl
  have HB2 := Lib.hid (HB1.out.trans (hb2.mono HB1.out.size))
  have HS2 := Lib.hid hb2.size
  clear hl hO hb2 HV
  go_wp2_with fail
  refine (ref_leaves seed (h : Int) w2 (Nat.le_trans hs (by decide))).mono ?_
  rintro e w3 ⟨⟨lv, rfl, ho⟩, hb3⟩
  rw [HW.out] at ho
  obtain ⟨la, lc, rfl⟩ := ho.form
  rw [leavesN_len] at ho ⊢
  have HEA := Lib.hid (ho.at (leavesN_ok _ _))
  have HLB := Lib.hid (show ∀ a, la = some a → w2.heap.size ≤ a.block from fun a ha => by
    obtain ⟨g, c, e, hg, _⟩ := ho.formB (by rw [leavesN_len]; exact Nat.two_pow_pos h)
    simp only [Value.slice.injEq] at e
    obtain ⟨rfl, _, _⟩ := e
    cases ha
    exact hg)
  have HL3 := Lib.hid (HL2.out.below hb3)
  have HB3 := Lib.hid (HB2.out.trans (hb3.mono HB2.out.size))
  have HS3 := Lib.hid hb3.size
  have HBL := Lib.hid (built_log nd seed la (2 ^ h) lc)
  obtain ⟨P2, hP2⟩ : ∃ p, (2 ^ h : Nat) = p := ⟨_, rfl⟩
  have HP2 := Shut.mk hP2
  rw [hP2] at HBL ⊢
  clear ho hb3 HB2 hP2
  go_wp2_with (refine wpList_build_val rfl 37 _ rfl [(0, .int .i64 nd), (1, .string ⟨seed.toArray⟩), (2, .slice la P2 lc)] _ (by rw [List.map_toArray]; rfl) HBL.out ?_)
  have hc4 : Cells w3.heap.size 37 #[.int .i64 nd, .string ⟨seed.toArray⟩, .slice la P2 lc, .slice none 0 0] (w3.alloc (.cells #[.int .i64 nd, .string ⟨seed.toArray⟩, .slice la P2 lc, .slice none 0 0] 37)) := heap_alloc_new w3 _
  have hb4 : Below w3.heap.size w3 (w3.alloc (.cells #[.int .i64 nd, .string ⟨seed.toArray⟩, .slice la P2 lc, .slice none 0 0] 37)) := (Below.refl _ _).alloc (Nat.le_refl _) _
  have HP : Pair w.heap.size w (.pointer (some a)) w3.heap.size nd seed h [] (w3.alloc (.cells #[.int .i64 nd, .string ⟨seed.toArray⟩, .slice la P2 lc, .slice none 0 0] 37)) := by
    refine ⟨w1.heap.size, O, refLogO w3.heap.size la (.slice none 0 0), HL3.out.below hb4, ⟨la, lc, .slice none 0 0, rfl, by rw [HP2.out]; exact hc4, HEA.out.below hb4, OwnE15.nil _ _⟩, fun x hx hr => ?_, HB1.out.size, fun x hx => ?_, HB3.out.trans (hb4.mono HB3.out.size)⟩
    · have hlt := HL2.out.lt x hx
      rcases hr with rfl | ⟨b, hb, rfl⟩ | hr
      · exact absurd hlt (Nat.not_lt.2 HS3.out)
      · exact absurd hlt (Nat.not_lt.2 (HLB.out b hb))
      · cases hr
    · rcases hx with rfl | ⟨b, hb, rfl⟩ | hr
      · exact Nat.le_trans HS2.out HS3.out
      · exact Nat.le_trans HS2.out (HLB.out b hb)
      · cases hr
  go_ret3
  exact ⟨_, _, rfl, HP⟩
end Go.Proofs.YtpfhlhcnmeodbaaGreatDoor
namespace Go.Proofs.YtpfhlhcnmeodbaaGreatDoor
open Go.RowKit Go.BigFrame
set_option maxHeartbeats 4000000 in
set_option maxRecDepth 100000 in
theorem ref_same15 (A B : List EntN) (pa pb : Option Addr) (ca cb : Nat) (w : World) (hA : ∀ x ∈ A, x.Ok) (hB : ∀ x ∈ B, x.Ok) (hpa : EntsAt pa A w) (hpb : EntsAt pb B w) (hlA : A.length ≤ 140737488351232) (hlB : B.length ≤ 140737488351232) :
    Calls Tryz.prog 24 #[.slice pa A.length ca, .slice pb B.length cb] w fun e w' => e = .returned (.bool (decide (A = B))) ∧ Below w.heap.size w w' := by
  have HPA := Lib.hid hpa
  have HPB := Lib.hid hpb
  have HA := Lib.hid hA
  have HB := Lib.hid hB
  clear hpa hpb hA hB
  obtain ⟨n, hn⟩ : ∃ n, A.length = n := ⟨_, rfl⟩
  obtain ⟨m, hm⟩ : ∃ m, B.length = m := ⟨_, rfl⟩
  have HLA := Shut.mk hn
  have HLB := Shut.mk hm
  rw [hn] at hlA ⊢
  rw [hm] at hlB ⊢
  clear hn hm
  by_cases h3 : ¬ n = m
  · have h3b : ((n : Int) != (m : Int)) = true := by simp; omega
    have HR := Shut.mk (show decide (A = B) = false from decide_eq_false (fun h => h3 (by rw [← HLA.out, ← HLB.out, h])))
    go_enter Tryz.func24, Tryz.ntmps24
    go_wp2_with fail
    go_ret
    exact ⟨by rw [HR.out]; rfl, Below.refl _ _⟩
  have h3 := Classical.not_not.1 h3
  subst h3
  go_enter Tryz.func24, Tryz.ntmps24
  go_wp2_with fail
  go_loopw [13] (fun i wr => ∃ k : Nat, k ≤ n ∧ i = .int .i64 k ∧ (∀ j, j < k → A[j]? = B[j]?) ∧ Below w.heap.size w wr) (fun i _ => n - (intOf i).toNat)
  case atStart => exact ⟨0, Nat.zero_le _, rfl, fun j hj => by omega, Below.refl _ _⟩
  case round =>
    obtain ⟨k, hk, rfl, hj, hb⟩ := hrel
    have HJ := Lib.hid hj
    have HBW := Lib.hid hb
    clear hj hb
    by_cases hkn : k < n
    · obtain ⟨a, hak⟩ : ∃ a, A[k]? = some a := ⟨_, List.getElem?_eq_getElem (by rw [HLA.out]; exact hkn)⟩
      obtain ⟨b, hbk⟩ : ∃ b, B[k]? = some b := ⟨_, List.getElem?_eq_getElem (by rw [HLB.out]; exact hkn)⟩
      have HAK := Shut.mk hak
      have HBK := Shut.mk hbk
      have ham := List.mem_of_getElem? hak
      have hbm := List.mem_of_getElem? hbk
      obtain ⟨ga, oa, rfl, hga, r1⟩ := (HPA.out.below HBW.out).getM hak
      obtain ⟨gb, ob, rfl, hgb, r2⟩ := (HPB.out.below HBW.out).getM hbk
      have HR1 := Lib.hid (fun (w' : World) (q : Below wr.heap.size wr w') => show w'.rangeAt ga (oa + k * 73) (entL a) from rangeAt_belowI r1 q hga)
      have HR2 := Lib.hid (fun (w' : World) (q : Below wr.heap.size wr w') => show w'.rangeAt gb (ob + k * 73) (entL b) from rangeAt_belowI r2 q hgb)
      have HS1 := Lib.hid (sizeEL (HA.out a ham))
      have HS2 := Lib.hid (sizeEL (HB.out b hbm))
      have HNE := Lib.hid (neq_ent a b (HA.out a ham) (HB.out b hbm))
      have HGE := Lib.hid (fun x y w => guard_ent .neq (.inr rfl) x y (entV a) (entV b) w)
      obtain ⟨z, hz⟩ : ∃ z, decide (a = b) = z := ⟨_, rfl⟩
      have HZ := Shut.mk hz
      rw [hz] at HNE
      clear hak hbk ham hbm hga hgb r1 r2 hz
      cases z with
      | true =>
        have HXY := Shut.mk (of_decide_eq_true HZ.out)
        go_upto_region 6 with (fail)
        refine wp_region_class (fun w' => Below wr.heap.size wr w') (by kernel_rfl) (by kernel_rfl) (Below.refl _ _).drew ?_
        repeat (first
          | go_big_quiet_skip
          | (go_big_quiet_want; refine quiet_load_row 54 _ rfl ga (oa + k * 73) (entL a) _ rfl HR1.out Tryz.underlying54 rfl HS1.out ?_; go_big_quiet_on; simp only [Act.put, List.setIfInBounds_toArray, List.set_cons_zero, List.set_cons_succ])
          | (go_big_quiet_want; refine quiet_load_row 54 _ rfl gb (ob + k * 73) (entL b) _ rfl HR2.out Tryz.underlying54 rfl HS2.out ?_; go_big_quiet_on; simp only [Act.put, List.setIfInBounds_toArray, List.set_cons_zero, List.set_cons_succ])
          | (go_big_quiet_want; refine quiet_bin .neq 54 54 _ _ rfl (.agg (entV a)) (.agg (entV b)) _ rfl rfl (HGE.out _ _) HNE.out ?_; go_big_quiet_on; simp only [Act.put, List.setIfInBounds_toArray, List.set_cons_zero, List.set_cons_succ])
          | go_big_quiet_step ((intro hs'; rfl)))
        refine wpQuiet_nil ?_
        intro w3 hb2
        go_wp2_with fail
        refine ⟨⟨k + 1, by omega, by go_num, fun q hq => ?_, HBW.out.trans (hb2.mono HBW.out.size)⟩, by simp [intOf]; omega⟩
        by_cases hqj : q = k
        · subst hqj
          rw [HAK.out, HBK.out, HXY.out]
        · exact HJ.out q (by omega)
      | false =>
        have hxy := of_decide_eq_false HZ.out
        have HR := Shut.mk (show decide (A = B) = false from decide_eq_false (fun h => hxy (by have h1 := HAK.out; rw [h, HBK.out] at h1; exact (Option.some.inj h1).symm)))
        clear hxy
        go_upto_region 6 with (fail)
        refine wp_region_class (fun w' => Below wr.heap.size wr w') (by kernel_rfl) (by kernel_rfl) (Below.refl _ _).drew ?_
        repeat (first
          | go_big_quiet_skip
          | (go_big_quiet_want; refine quiet_load_row 54 _ rfl ga (oa + k * 73) (entL a) _ rfl HR1.out Tryz.underlying54 rfl HS1.out ?_; go_big_quiet_on; simp only [Act.put, List.setIfInBounds_toArray, List.set_cons_zero, List.set_cons_succ])
          | (go_big_quiet_want; refine quiet_load_row 54 _ rfl gb (ob + k * 73) (entL b) _ rfl HR2.out Tryz.underlying54 rfl HS2.out ?_; go_big_quiet_on; simp only [Act.put, List.setIfInBounds_toArray, List.set_cons_zero, List.set_cons_succ])
          | (go_big_quiet_want; refine quiet_bin .neq 54 54 _ _ rfl (.agg (entV a)) (.agg (entV b)) _ rfl rfl (HGE.out _ _) HNE.out ?_; go_big_quiet_on; simp only [Act.put, List.setIfInBounds_toArray, List.set_cons_zero, List.set_cons_succ])
          | go_big_quiet_step ((intro hs'; rfl)))
        refine wpQuiet_nil ?_
        intro w3 hb2
        go_wp2_with fail
        go_ret
        exact ⟨by rw [HR.out]; rfl, HBW.out.trans (hb2.mono HBW.out.size)⟩
    · obtain rfl : k = n := by omega
      have HR := Shut.mk (show decide (A = B) = true from decide_eq_true (ents_all HLA.out HLB.out HJ.out))
      go_wp2_with fail
      go_ret
      exact ⟨by rw [HR.out]; rfl, HBW.out⟩
end Go.Proofs.YtpfhlhcnmeodbaaGreatDoor
