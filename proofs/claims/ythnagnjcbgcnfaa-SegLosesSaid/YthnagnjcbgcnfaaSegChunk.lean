/-
  slices.Chunk of bytes, by 128: what it answers; the iterator's contract.
-/
import Derived.RangeFuncWrites
import Derived.RangeFuncCalls
import Derived.RangeFuncLeaves
import Derived.Shelf.Abstract
import Derived.Shelf.RegionOpen
import Derived.WalkKit
import Derived.OwnWalkIn
import Derived.TacticsInMore
import Derived.LoopNIn
import Derived.LoopIn
import Derived.Test.YthnagnjcbgcnfaaSegSm
namespace Go.Proofs.Ythnagnjcbgcnfaa
open Go.RowKit Go.BigFrame

attribute [local go_sem] Oper.semAt_some

theorem chunk_any (ao : Option Addr) (n c : Nat) (w : World) :
    Calls Try.prog 50 #[.slice ao n c, .int .i64 128] w fun x w' => x = .returned (.func (.func 57) #[] #[.pointer (some ⟨w.heap.size, 0, none⟩), .pointer (some ⟨w.heap.size + 1, 0, none⟩)]) ∧
      w'.cell? ⟨w.heap.size, 0, none⟩ = some (.slice ao n c) ∧ w'.cell? ⟨w.heap.size + 1, 0, none⟩ = some (.int .i64 128) ∧ w'.heap.size = w.heap.size + 2 ∧ Below w.heap.size w w' := by
  go_enter Try.func50, Try.ntmps50
  go_wp2_with fail
  go_ret
  have ha : Below w.heap.size w (w.alloc (.cells #[.slice ao n c] 40)) := (Below.refl _ _).alloc (Nat.le_refl _) _
  have h1 : Cells w.heap.size 40 #[.slice ao n c] (w.alloc (.cells #[.slice ao n c] 40)) := heap_alloc_new w _
  have hs : (w.alloc (.cells #[.slice ao n c] 40)).heap.size = w.heap.size + 1 := World.size_alloc _ _
  obtain ⟨w1, hw1⟩ : ∃ x, x = w.alloc (.cells #[.slice ao n c] 40) := ⟨_, rfl⟩
  rw [← hw1] at ha h1 hs ⊢
  have hb : Below w1.heap.size w1 (w1.alloc (.cells #[.int .i64 128] 3)) := (Below.refl _ _).alloc (Nat.le_refl _) _
  have h2 : Cells w1.heap.size 3 #[.int .i64 128] (w1.alloc (.cells #[.int .i64 128] 3)) := heap_alloc_new w1 _
  rw [hs] at h2
  exact ⟨rfl, by rw [(h1.below hb).at 0]; rfl, by rw [h2.at 0]; rfl, by rw [World.size_alloc, hs], ha.trans (hb.mono ha.size)⟩

def chunkV (g n i : Nat) : Value := .slice (some ⟨g, 128 * i, none⟩) (min 128 (n - 128 * i)) (min 128 (n - 128 * i))
/-- What a round must keep: the two boxes. -/
def BoxesKept (s n : Nat) (W W' : World) : Prop := ∀ b v, (b = s ∨ b = n) → W.cell? ⟨b, 0, none⟩ = some v → W'.cell? ⟨b, 0, none⟩ = some v

set_option maxRecDepth 100000 in
set_option maxHeartbeats 2000000 in
theorem chunk1_in (m l Bs Bn g n c : Nat) (ao : Option Addr) (hao : 0 < n → ao = some ⟨g, 0, none⟩) (hc : n ≤ c) (hn : n ≤ 3000000) (J Jx : List Nat → World → Prop) (W : World)
    (hJ : AbidesFrom W.heap.size J) (hBs : W.cell? ⟨Bs, 0, none⟩ = some (.slice ao n c)) (hBn : W.cell? ⟨Bn, 0, none⟩ = some (.int .i64 128))
    (hY : ∀ pre x W1, J pre W1 → pre.length < (n + 127) / 128 → YieldAt Fence.wide (m - 1) Try.prog l #[chunkV g n x] W1 fun e W' =>
      (e = .returned (.bool true) ∧ J (pre ++ [x]) W' ∧ BoxesKept Bs Bn W1 W') ∨ (e = .returned (.bool false) ∧ Jx (pre ++ [x]) W'))
    (h0 : J [] W) :
    CallsIn Fence.wide m Try.prog 57 #[.func (.yield l) #[] #[], .pointer (some ⟨Bs, 0, none⟩), .pointer (some ⟨Bn, 0, none⟩)] W fun e W' => (∃ v, e = .returned v) ∧
      ((∃ xs, xs = List.range ((n + 127) / 128) ∧ J xs W') ∨ (∃ pre, (∃ k, k ≤ (n + 127) / 128 ∧ pre = List.range k) ∧ Jx pre W')) := by
  refine callsIn_wide.2 ?_
  have HJ := Lib.hid hJ
  have HY := Lib.hid hY
  have HAO := Lib.hid hao
  clear hJ hY hao
  go_enter Try.func57, Try.ntmps57
  go_wp2_with fail
  go_loopw [4] (fun i wr => ∃ k : Nat, k ≤ (n + 127) / 128 ∧ i = .int .i64 (128 * k : Nat) ∧ J (List.range k) wr ∧ wr.cell? ⟨Bs, 0, none⟩ = some (.slice ao n c) ∧ wr.cell? ⟨Bn, 0, none⟩ = some (.int .i64 128)) (fun i _ => n + 128 - (intOf i).toNat)
  case atStart => exact ⟨0, Nat.zero_le _, rfl, h0, hBs, hBn⟩
  case round =>
    clear hBs hBn h0
    obtain ⟨k, hk, rfl, hJs, hbs, hbn⟩ := hrel
    by_cases hlt : 128 * k < n
    · obtain rfl := HAO.out (by omega)
      have hlt2 : 128 * (k : Int) < (n : Int) := by omega
      go_upto_region 3 with (fail)
      obtain ⟨q, hq⟩ : ∃ q, min 128 (n - 128 * k) = q := ⟨_, rfl⟩
      have hqi : min (128 : Int) ((n - 128 * k : Nat) : Int) = (q : Int) := by omega
      go_quiet (fail)
      obtain ⟨fn, tmps, assign, body, hy, hR⟩ := HY.out (List.range k) k (wr.drewN nq) (HJ.out _ wr _ none hJs ⟨rfl, rfl, rfl, Nat.le_refl _, fun _ _ _ => rfl⟩ (fun r hr => by cases hr)) (by rw [List.length_range]; omega)
      rw [chunkV, hq] at hy
      obtain ⟨w1, hw1⟩ : ∃ x, x = wr.drewN nq := ⟨_, rfl⟩
      have hbs1 : w1.cell? ⟨Bs, 0, none⟩ = some (.slice (some ⟨g, 0, none⟩) n c) := by rw [hw1]; exact hbs
      have hbn1 : w1.cell? ⟨Bn, 0, none⟩ = some (.int .i64 128) := by rw [hw1]; exact hbn
      rw [← hw1] at hy hR ⊢
      have hq2 : 128 * (k : Int) + (q : Int) ≤ (c : Int) := by omega
      have hq3 : 128 * k + q - 128 * k = q := by omega
      clear hw1 hbs hbn hJs hqi
      go_upto_region 4 with (fail)
      refine (wpIn_wide (n := m)).1 ?_
      gi_wp2
      refine ⟨(fun h => by cases h), ?_⟩
      have hr1 : List.range (k + 1) = List.range k ++ [k] := List.range_succ
      refine hR.mono ?_
      rintro e w3 (⟨rfl, hJ3, hk3⟩ | ⟨rfl, hJx3⟩)
      · have hbs3 := hk3 Bs _ (.inl rfl) hbs1
        have hbn3 := hk3 Bn _ (.inr rfl) hbn1
        rw [← hr1] at hJ3
        have HJ3 := Lib.hid hJ3
        clear hJ3 hk3 hR hy hr1 hbs1 hbn1
        gi_wp2
        go_wp2_with fail
        exact ⟨⟨k + 1, by omega, by go_num, HJ3.out, hbs3, hbn3⟩, by simp [intOf]; omega⟩
      · rw [← hr1] at hJx3
        have HJ3 := Lib.hid hJx3
        clear hJx3 hR hy hr1 hbs1 hbn1
        gi_wp2
        go_wp2_with fail
        refine bodyPost_ret (results_none rfl _ _ _) rfl ?_
        exact ⟨⟨_, rfl⟩, .inr ⟨_, ⟨k + 1, by omega, rfl⟩, HJ3.out⟩⟩
    · obtain rfl : k = (n + 127) / 128 := by omega
      have hnl : ¬ 128 * (((n + 127) / 128 : Nat) : Int) < (n : Int) := by omega
      have HJ3 := Lib.hid hJs
      clear hJs
      go_wp2_with fail
      refine bodyPost_end (results_none rfl _ _ _) rfl ?_
      exact ⟨⟨_, rfl⟩, .inl HJ3.out⟩

theorem chunk_seq (m Bs Bn g n c : Nat) (ao : Option Addr) (hao : 0 < n → ao = some ⟨g, 0, none⟩) (hc : n ≤ c) (hn : n ≤ 3000000) (w : World) (hBs : w.cell? ⟨Bs, 0, none⟩ = some (.slice ao n c)) (hBn : w.cell? ⟨Bn, 0, none⟩ = some (.int .i64 128)) (h1 : Bs < w.heap.size) (h2 : Bn < w.heap.size) :
    SeqStopsK Fence.wide m Try.prog 57 #[.pointer (some ⟨Bs, 0, none⟩), .pointer (some ⟨Bn, 0, none⟩)] (fun x => #[chunkV g n x]) (BoxesKept Bs Bn) (fun xs => xs = List.range ((n + 127) / 128)) (fun pre => ∃ k, k ≤ (n + 127) / 128 ∧ pre = List.range k) ((n + 127) / 128) w := fun l J Jx W hW hJ _ hY h0 => by
  have h := chunk1_in m l Bs Bn g n c ao hao hc hn J Jx W hJ ((hW.cell (p := ⟨Bs, 0, none⟩) h1).trans hBs) ((hW.cell (p := ⟨Bn, 0, none⟩) h2).trans hBn) hY h0
  exact h
end Go.Proofs.Ythnagnjcbgcnfaa
