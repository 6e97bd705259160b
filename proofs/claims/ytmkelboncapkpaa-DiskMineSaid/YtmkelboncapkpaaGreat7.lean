/-
  What the laws of layer 7 ask first: great, alive.
-/
import Derived.Test.YtmkelboncapkpaaSame7
namespace Go.Proofs.Ytmkelboncapkpaa
open Go.RowKit Go.BigFrame

def sumB : List CallAt → Nat
  | [] => 0
  | x :: l => x.c.b.length + sumB l
theorem sumB_append (l m : List CallAt) : sumB (l ++ m) = sumB l + sumB m := by
  induction l with
  | nil => simp [sumB]
  | cons x l ih => simp only [List.cons_append, sumB, ih]; omega
theorem sumB_take {L : List CallAt} {k : Nat} (h : k < L.length) : sumB (L.take (k + 1)) = sumB (L.take k) + (L[k]).c.b.length := by
  rw [List.take_succ_eq_append_getElem h, sumB_append]
  simp [sumB]
theorem sumB_mem {L : List CallAt} {x : CallAt} (h : x ∈ L) : x.c.b.length ≤ sumB L := by
  induction L with
  | nil => cases h
  | cons y l ih =>
    rcases List.mem_cons.1 h with rfl | h
    · simp [sumB]
    · have := ih h
      simp only [sumB]
      omega
theorem sumB_le (L : List CallAt) (k : Nat) : sumB (L.take k) ≤ sumB L := by
  have h := sumB_append (L.take k) (L.drop k)
  rw [List.take_append_drop] at h
  omega
def greatN (L : List CallAt) : Bool := decide (4096 < sumB L) || decide (100 < L.length)
theorem callV_one (c : CallN) (bo : Option Addr) (bc : Nat) : (callV c bo bc).all (·.oneCell') = true := by
  rw [show callV c bo bc = [Value.int .i64 c.kind, .int .i64 c.at', .slice bo c.b.length bc, .int .u64 c.keep].toArray from rfl]
  refine all_oneCell_toArray fun v hv => ?_
  simp only [List.mem_cons, List.not_mem_nil, or_false] at hv
  rcases hv with rfl | rfl | rfl | rfl <;> rfl
theorem Try.infoCall7 : (Try.prog.info? 32).map (·.size) = some 4 := by kernel_rfl
theorem ScriptAt.some {ao : Option Addr} {L : List CallAt} {w : World} (h : ScriptAt ao L w) {k : Nat} (hk : k < L.length) : ∃ b o, ao = some ⟨b, o, none⟩ ∧ b < w.heap.size ∧ w.rangeAt b (o + k * 4) (callV L[k].c L[k].bo L[k].bc).toList := by
  rcases h with rfl | ⟨b, o, h1, h2, h3⟩
  · cases hk
  · exact ⟨b, o, h1, h2, h3 k hk⟩
theorem range_below {b o B : Nat} {cs : List Value} {w w' : World} (h : w.rangeAt b o cs) (hb : Below B w w') (hB : b < B) : w'.rangeAt b o cs := fun j v hv => (hb.cell (p := ⟨b, o + j, none⟩) hB).trans (h j v hv)

set_option maxHeartbeats 4000000 in
set_option maxRecDepth 100000 in
theorem great7_any (ao : Option Addr) (L : List CallAt) (cap : Nat) (w : World) (h : ScriptAt ao L w) (hok : ∀ x ∈ L, x.Ok w) (hl : L.length ≤ 140737488351232) :
    Calls Try.prog 8 #[.slice ao L.length cap] w fun e w' => e = .returned (.bool (greatN L)) ∧ Below w.heap.size w w' := by
  have H := Lib.hid h
  have HOK := Lib.hid hok
  have HG := Shut.mk (show greatN L = (decide (4096 < sumB L) || decide (100 < L.length)) from rfl)
  obtain ⟨G, hG⟩ : ∃ G, greatN L = G := ⟨_, rfl⟩
  rw [hG] at HG ⊢
  clear h hok hG
  go_enter Try.func8, Try.ntmps8
  go_wp2_with fail
  go_loopw [3, 8] (fun n i wq => ∃ k : Nat, k ≤ L.length ∧ i = .int .i64 k ∧ n = .int .i64 ((sumB (L.take k) : Nat) : Int) ∧ sumB (L.take k) ≤ 4096 ∧ Below w.heap.size w wq) (fun _ i _ => L.length - (intOf i).toNat)
  case atStart => exact ⟨0, by omega, rfl, by simp [sumB], by simp [sumB], Below.refl _ _⟩
  case round =>
    obtain ⟨k, hk, rfl, rfl, hs, hb⟩ := hrel
    have HB := Lib.hid hb
    clear hb
    by_cases hlk : k < L.length
    · have hlk2 : (k : Int) < (L.length : Int) := by omega
      obtain ⟨b, o, rfl, hbb, hr⟩ := H.out.some hlk
      have HR := Lib.hid (range_below hr HB.out hbb)
      have HT := Shut.mk (sumB_take hlk)
      have hx := HOK.out _ (List.getElem_mem hlk)
      have hxl := hx.long
      have HLE := Lib.hid (sumB_le L (k + 1))
      obtain ⟨x, hxe⟩ : ∃ x, L[k] = x := ⟨_, rfl⟩
      rw [hxe] at HR HT hxl
      obtain ⟨c, bo, bc⟩ := x
      have HV1 := Lib.hid (callV_one c bo bc)
      have HI4 := Lib.hid (show (Try.prog.info? 32).map (·.size) = some (callV c bo bc).toList.length from Try.infoCall7)
      have HI5 := Lib.hid (show (Try.prog.info? 32).map (·.size) = some (callV c bo bc).size from Try.infoCall7)
      have HB2 := Shut.mk (show (callV c bo bc)[2]? = some (.slice bo c.b.length bc) from rfl)
      have HTL := Shut.mk (show (callV c bo bc).toList.toArray = callV c bo bc from rfl)
      have HZN := Lib.hid (show Cells wr.heap.size 32 (callV ⟨0, 0, [], 0⟩ none 0) (wr.alloc (.cells (callV ⟨0, 0, [], 0⟩ none 0) 32)) from heap_alloc_new wr _)
      have HZS := Lib.hid (show (callV ⟨0, 0, [], 0⟩ none 0).size = (callV c bo bc).size from rfl)
      obtain ⟨bl, hbl⟩ : ∃ bl, c.b.length = bl := ⟨_, rfl⟩
      simp only at HT hxl
      rw [hbl] at HB2 HT hxl
      obtain ⟨V, hV⟩ : ∃ V, callV c bo bc = V := ⟨_, rfl⟩
      rw [hV] at HR HV1 HI4 HI5 HB2 HTL HZS
      obtain ⟨sk, hsk⟩ : ∃ sk, sumB (L.take k) = sk := ⟨_, rfl⟩
      rw [hsk] at HT hs ⊢
      have HSK := Shut.mk hsk
      clear hr hbb hx hxe hbl hV hsk
      go_wp2_with (first
        | (refine wpList_load_mid rfl 32 _ rfl b (o + k * 4) rfl V.toList _ HR.out Try.underlying32 rfl HI4.out ?_)
        | (refine wpList_store_cells rfl 32 _ _ rfl rfl wr.heap.size _ V 32 rfl rfl HZN.out HI5.out HZS.out HV1.out ?_))
      intro w2 hc2 hb2
      have HB2' := Lib.hid (HB.out.trans ((show Below wr.heap.size wr w2 from But.toBelow ((Below.refl _ _).alloc (Nat.le_refl _) (.cells (callV ⟨0, 0, [], 0⟩ none 0) 32)) hb2.out (Nat.le_refl _) (by simp)).mono HB.out.size))
      have c2 : w2.cell? ⟨wr.heap.size, 2, none⟩ = some (.slice bo bl bc) := by rw [hc2.out.at 2, HB2.out]
      clear hc2 hb2 HR HZN HB
      by_cases hgt : 4096 < sk + bl
      · have hgt2 : (4096 : Int) < (sk : Int) + (bl : Int) := by omega
        go_wp2_with fail
        go_ret
        exact ⟨by rw [HG.out, decide_eq_true (show 4096 < sumB L by have := HLE.out; have := HT.out; omega)]; rfl, HB2'.out⟩
      · have hgt2 : ¬ (4096 : Int) < (sk : Int) + (bl : Int) := by omega
        go_wp2_with fail
        exact ⟨⟨k + 1, by omega, by go_num, by rw [HT.out]; simp, by rw [HT.out]; omega, HB2'.out⟩, by simp [intOf]; omega⟩
    · obtain rfl : k = L.length := by omega
      have hnw : ¬ ((L.length : Nat) : Int) < ((L.length : Nat) : Int) := by omega
      rw [List.take_length] at hs ⊢
      have HGF := Shut.mk (show decide (100 < L.length) = G by rw [HG.out, decide_eq_false (show ¬ 4096 < sumB L by omega)]; simp)
      obtain ⟨n, hn⟩ : ∃ n, L.length = n := ⟨_, rfl⟩
      rw [hn] at HGF hnw hl ⊢
      have hgf := HGF.out
      cases G with
      | true =>
        have h100 : (100 : Int) < (n : Int) := by have := of_decide_eq_true hgf; omega
        go_wp2_with fail
        go_ret
        exact ⟨rfl, HB.out⟩
      | false =>
        have h100 : ¬ (100 : Int) < (n : Int) := by have := of_decide_eq_false hgf; omega
        go_wp2_with fail
        go_ret
        exact ⟨rfl, HB.out⟩
end Go.Proofs.Ytmkelboncapkpaa
