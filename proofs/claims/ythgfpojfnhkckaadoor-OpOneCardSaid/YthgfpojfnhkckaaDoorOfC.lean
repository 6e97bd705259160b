/-
  The document's Of: the loop that makes the other words.
-/
import Derived.Test.YthgfpojfnhkckaaDoorOfA
namespace Go.Proofs.YthgfpojfnhkckaaDoor
open Go.RowKit

set_option maxHeartbeats 4000000 in
set_option maxRecDepth 100000 in
theorem of_loop6 {p : List Nat} {m : Nat} {w4 w : World}
    {ca0 ca1 ca2 ca3 ca4 ca5 ca6 ca7 ca8 ca10 ca11 ub13 ub14 ca15 ca16 ca17 ca18 ca19 ca20 ca21 ca22 ca23 ca24 ca25 ca26 ca27 ca28 ca29 ca30 ca31
    ca32 ca33 ca34 ca35 ca36 ca37 ca38 ca39 ca40 ca41 ca42 ca43 ca44 ca45 ca46 ca47 ca48 ca49 ca50 ca51 ca52 ca53 ca54 ca55 ca56 ca57 ca58 ca59 ca60 ca61
    ca62 ca63 ca64 ca65 ca66 ca67 ca68 ca69 ca70 ca71 ca72 ca73 ca74 ca75 ca76 ca77 ca78 ca79 ca80 ca81 ca82 ca83 ca84 ca85 ca86 ub87 ub88 ub89 ub90 ub91
    ub92 ub93 ub94 ub95 ub96 ub97 ub98 ub99 ub100 ub101 ub102 ub103 ub104 ub105 ub106 ub107 ub108 ub109 ub110 ub111 ub112 ub113 ub114 ub115 ub116 ub117 ub118 ub119 ub120 ub121
    ub122 ub123 ub124 ub125 ub126 ub127 ub128 ub129 ub130 ub131 ub132 ca133 ca134 ca135 ca136 ca137 ca138 ca139 ca140 ca141 ca142 ca143 ca144 ca145 ca146 ca147 ca148 ca149 ca150 ca151
    ca152 ca153 ca154 ca155 ca156 ca157 ca158 ca159 ca160 ca161 ca162 ca163 ca164 ca165 ca166 ca167 ca168 ca169 ca170 ca171 ca172 ca173 ca174 ca175 ca176 ca177 ca178 ca179 ca180 ca181
    ca182 ca183 ca184 ca185 ca186 ca187 ca188 ca189 ca190 ca191 ca192 ca193 ca194 ca195 ca196 ca197 ca198 ca199 ca200 ca201 ca202 ca203 ca204 ca205 ca206 ca207 ca208 ca209 ca210 ca211
    ca212 ca213 ca214 ca215 ca216 ca217 ca218 ca219 ca220 ca221 ca222 ca223 ca224 ca225 ca226 ca227 ca228 ca229 ca230 ca231 ca232 ca233 ca234 ca235 ca236 ca237 ca238 ca239 ca240 ca241
    ca242 ca243 ca244 ca245 ca246 ca247 ca248 ca249 ca250 ca251 ca252 ca253 ca254 ca255 ca256 ca257 ca258 ca259 ca260 ca261 ca262 ca263 ca264 ca265 ca266 ca267 ca268 ca269 ca270 ca271
    ca272 ca273 ca274 ca275 ca276 ca277 ca278 ca279 ca280 ca281 ca282 ca283 ca284 ca285 ca286 : Value}
    (HBY : Hid (∀ j, wAt p m j < 256))
    (HW : Hid (OwnN w4.heap.size 64 .u32 (.slice (some ⟨w4.heap.size, 0, none⟩) 64 64) (arrW (wAt p m) 16) w)) (HB5 : Hid (Below w4.heap.size w4 w))
    (R : Act → World → Prop)
    (hexit : Hid (∀  (w1 : World), OwnN w4.heap.size 64 .u32 (.slice (some ⟨w4.heap.size, 0, none⟩) 64 64) (wl (wAt p m) 64) w1 ∧ Below w4.heap.size w4 w1 → ∀ {vb12 vb13 vb14 vb87 vb88 vb89 vb90 vb91 vb92 vb93 vb94 vb95 vb96 vb97 vb98 vb99 vb100 vb101 vb102 vb103 vb104 vb105 vb106 vb107 vb108 vb109 vb110 vb111 vb112 vb113
    vb114 vb115 vb116 vb117 vb118 vb119 vb120 vb121 vb122 vb123 vb124 vb125 vb126 vb127 vb128 vb129 vb130 vb131 vb132 : Value},
      R ⟨List.toArray (ca0 :: ca1 :: ca2 :: ca3 :: ca4 :: ca5 :: ca6 :: ca7 :: ca8 :: .slice (some ⟨w4.heap.size, 0, none⟩) 64 64 :: ca10 :: ca11 :: vb12 :: vb13 :: vb14 :: ca15 :: ca16 :: ca17 :: ca18 :: ca19 :: ca20 :: ca21 :: ca22 :: ca23 :: ca24 ::
      ca25 :: ca26 :: ca27 :: ca28 :: ca29 :: ca30 :: ca31 :: ca32 :: ca33 :: ca34 :: ca35 :: ca36 :: ca37 :: ca38 :: ca39 :: ca40 :: ca41 :: ca42 :: ca43 :: ca44 :: ca45 :: ca46 :: ca47 :: ca48 :: ca49 :: ca50 :: ca51 :: ca52 ::
      ca53 :: ca54 :: ca55 :: ca56 :: ca57 :: ca58 :: ca59 :: ca60 :: ca61 :: ca62 :: ca63 :: ca64 :: ca65 :: ca66 :: ca67 :: ca68 :: ca69 :: ca70 :: ca71 :: ca72 :: ca73 :: ca74 :: ca75 :: ca76 :: ca77 :: ca78 :: ca79 :: ca80 ::
      ca81 :: ca82 :: ca83 :: ca84 :: ca85 :: ca86 :: vb87 :: vb88 :: vb89 :: vb90 :: vb91 :: vb92 :: vb93 :: vb94 :: vb95 :: vb96 :: vb97 :: vb98 :: vb99 :: vb100 :: vb101 :: vb102 :: vb103 :: vb104 :: vb105 :: vb106 :: vb107 ::
      vb108 :: vb109 :: vb110 :: vb111 :: vb112 :: vb113 :: vb114 :: vb115 :: vb116 :: vb117 :: vb118 :: vb119 :: vb120 :: vb121 :: vb122 :: vb123 :: vb124 :: vb125 :: vb126 :: vb127 :: vb128 :: vb129 :: vb130 :: vb131 :: vb132 ::
      ca133 :: ca134 :: ca135 :: ca136 :: ca137 :: ca138 :: ca139 :: ca140 :: ca141 :: ca142 :: ca143 :: ca144 :: ca145 :: ca146 :: ca147 :: ca148 :: ca149 :: ca150 :: ca151 :: ca152 :: ca153 :: ca154 :: ca155 :: ca156 :: ca157 ::
      ca158 :: ca159 :: ca160 :: ca161 :: ca162 :: ca163 :: ca164 :: ca165 :: ca166 :: ca167 :: ca168 :: ca169 :: ca170 :: ca171 :: ca172 :: ca173 :: ca174 :: ca175 :: ca176 :: ca177 :: ca178 :: ca179 :: ca180 :: ca181 :: ca182 ::
      ca183 :: ca184 :: ca185 :: ca186 :: ca187 :: ca188 :: ca189 :: ca190 :: ca191 :: ca192 :: ca193 :: ca194 :: ca195 :: ca196 :: ca197 :: ca198 :: ca199 :: ca200 :: ca201 :: ca202 :: ca203 :: ca204 :: ca205 :: ca206 :: ca207 ::
      ca208 :: ca209 :: ca210 :: ca211 :: ca212 :: ca213 :: ca214 :: ca215 :: ca216 :: ca217 :: ca218 :: ca219 :: ca220 :: ca221 :: ca222 :: ca223 :: ca224 :: ca225 :: ca226 :: ca227 :: ca228 :: ca229 :: ca230 :: ca231 :: ca232 ::
      ca233 :: ca234 :: ca235 :: ca236 :: ca237 :: ca238 :: ca239 :: ca240 :: ca241 :: ca242 :: ca243 :: ca244 :: ca245 :: ca246 :: ca247 :: ca248 :: ca249 :: ca250 :: ca251 :: ca252 :: ca253 :: ca254 :: ca255 :: ca256 :: ca257 ::
      ca258 :: ca259 :: ca260 :: ca261 :: ca262 :: ca263 :: ca264 :: ca265 :: ca266 :: ca267 :: ca268 :: ca269 :: ca270 :: ca271 :: ca272 :: ca273 :: ca274 :: ca275 :: ca276 :: ca277 :: ca278 :: ca279 :: ca280 :: ca281 :: ca282 ::
      ca283 :: ca284 :: ca285 :: ca286 :: []), []⟩ w1)) :
    Code.wp Tryd.prog (Code.loop (loopAt Tryd.f33 5)) (Ends 10 R) ⟨List.toArray (ca0 :: ca1 :: ca2 :: ca3 :: ca4 :: ca5 :: ca6 :: ca7 :: ca8 :: .slice (some ⟨w4.heap.size, 0, none⟩) 64 64 :: ca10 :: ca11 :: .int .i64 16 :: ub13 :: ub14 :: ca15 :: ca16 :: ca17 :: ca18 :: ca19 :: ca20 :: ca21 :: ca22 :: ca23 ::
      ca24 :: ca25 :: ca26 :: ca27 :: ca28 :: ca29 :: ca30 :: ca31 :: ca32 :: ca33 :: ca34 :: ca35 :: ca36 :: ca37 :: ca38 :: ca39 :: ca40 :: ca41 :: ca42 :: ca43 :: ca44 :: ca45 :: ca46 :: ca47 :: ca48 :: ca49 :: ca50 :: ca51 ::
      ca52 :: ca53 :: ca54 :: ca55 :: ca56 :: ca57 :: ca58 :: ca59 :: ca60 :: ca61 :: ca62 :: ca63 :: ca64 :: ca65 :: ca66 :: ca67 :: ca68 :: ca69 :: ca70 :: ca71 :: ca72 :: ca73 :: ca74 :: ca75 :: ca76 :: ca77 :: ca78 :: ca79 ::
      ca80 :: ca81 :: ca82 :: ca83 :: ca84 :: ca85 :: ca86 :: ub87 :: ub88 :: ub89 :: ub90 :: ub91 :: ub92 :: ub93 :: ub94 :: ub95 :: ub96 :: ub97 :: ub98 :: ub99 :: ub100 :: ub101 :: ub102 :: ub103 :: ub104 :: ub105 :: ub106 ::
      ub107 :: ub108 :: ub109 :: ub110 :: ub111 :: ub112 :: ub113 :: ub114 :: ub115 :: ub116 :: ub117 :: ub118 :: ub119 :: ub120 :: ub121 :: ub122 :: ub123 :: ub124 :: ub125 :: ub126 :: ub127 :: ub128 :: ub129 :: ub130 :: ub131 ::
      ub132 :: ca133 :: ca134 :: ca135 :: ca136 :: ca137 :: ca138 :: ca139 :: ca140 :: ca141 :: ca142 :: ca143 :: ca144 :: ca145 :: ca146 :: ca147 :: ca148 :: ca149 :: ca150 :: ca151 :: ca152 :: ca153 :: ca154 :: ca155 :: ca156 ::
      ca157 :: ca158 :: ca159 :: ca160 :: ca161 :: ca162 :: ca163 :: ca164 :: ca165 :: ca166 :: ca167 :: ca168 :: ca169 :: ca170 :: ca171 :: ca172 :: ca173 :: ca174 :: ca175 :: ca176 :: ca177 :: ca178 :: ca179 :: ca180 :: ca181 ::
      ca182 :: ca183 :: ca184 :: ca185 :: ca186 :: ca187 :: ca188 :: ca189 :: ca190 :: ca191 :: ca192 :: ca193 :: ca194 :: ca195 :: ca196 :: ca197 :: ca198 :: ca199 :: ca200 :: ca201 :: ca202 :: ca203 :: ca204 :: ca205 :: ca206 ::
      ca207 :: ca208 :: ca209 :: ca210 :: ca211 :: ca212 :: ca213 :: ca214 :: ca215 :: ca216 :: ca217 :: ca218 :: ca219 :: ca220 :: ca221 :: ca222 :: ca223 :: ca224 :: ca225 :: ca226 :: ca227 :: ca228 :: ca229 :: ca230 :: ca231 ::
      ca232 :: ca233 :: ca234 :: ca235 :: ca236 :: ca237 :: ca238 :: ca239 :: ca240 :: ca241 :: ca242 :: ca243 :: ca244 :: ca245 :: ca246 :: ca247 :: ca248 :: ca249 :: ca250 :: ca251 :: ca252 :: ca253 :: ca254 :: ca255 :: ca256 ::
      ca257 :: ca258 :: ca259 :: ca260 :: ca261 :: ca262 :: ca263 :: ca264 :: ca265 :: ca266 :: ca267 :: ca268 :: ca269 :: ca270 :: ca271 :: ca272 :: ca273 :: ca274 :: ca275 :: ca276 :: ca277 :: ca278 :: ca279 :: ca280 :: ca281 ::
      ca282 :: ca283 :: ca284 :: ca285 :: ca286 :: []), []⟩ w := by
  conv => arg 2; arg 1; whnf

  go_loopw [12] (fun i wq => ∃ k : Nat, 16 ≤ k ∧ k ≤ 64 ∧ i = .int .i64 k ∧ OwnN w4.heap.size 64 .u32 (.slice (some ⟨w4.heap.size, 0, none⟩) 64 64) (arrW (wAt p m) k) wq ∧ Below w4.heap.size w4 wq) (fun i _ => 64 - (intOf i).toNat)
  case atStart => exact ⟨16, by omega, by omega, rfl, HW.out, HB5.out⟩
  case round =>
    clear HW HB5
    obtain ⟨k, hk16, hk, rfl, ho, hb⟩ := hrel
    have HW := Lib.hid ho
    have HB5 := Lib.hid hb
    clear ho hb
    by_cases hlk : k < 64
    · have hwl := wl_lt HBY.out k
      have hlen := arrW_len (wAt p m) hk
      have hat : ∀ d, 1 ≤ d → d ≤ k → (arrW (wAt p m) k)[k - d]? = some ((wl (wAt p m) k).getD (k - d) 0) := by
        intro d h1 h2
        unfold arrW
        rw [List.getElem?_append_left (by rw [wl_len]; omega), List.getD_eq_getElem?_getD, List.getElem?_eq_getElem (by rw [wl_len]; omega)]
        rfl
      have hW := HW.out
      rw [← hlen] at hW
      obtain ⟨j16, hj16⟩ : ∃ j, j = k - 16 := ⟨_, rfl⟩
      obtain ⟨j7, hj7⟩ : ∃ j, j = k - 7 := ⟨_, rfl⟩
      obtain ⟨j15, hj15⟩ : ∃ j, j = k - 15 := ⟨_, rfl⟩
      obtain ⟨j2, hj2⟩ : ∃ j, j = k - 2 := ⟨_, rfl⟩
      have a16 := hat 16 (by omega) (by omega)
      have a7 := hat 7 (by omega) (by omega)
      have a15 := hat 15 (by omega) (by omega)
      have a2 := hat 2 (by omega) (by omega)
      rw [← hj16] at a16
      rw [← hj7] at a7
      rw [← hj15] at a15
      rw [← hj2] at a2
      have x15 := getD_lt hwl (by decide) j15
      have x2 := getD_lt hwl (by decide) j2
      have x16 := getD_lt hwl (by decide) j16
      have x7 := getD_lt hwl (by decide) j7
      have hnx : nextW (wl (wAt p m) k) k = ((wl (wAt p m) k).getD (k - 16) 0 + (wl (wAt p m) k).getD (k - 7) 0 + s0 ((wl (wAt p m) k).getD (k - 15) 0) + s1 ((wl (wAt p m) k).getD (k - 2) 0)) % 4294967296 := rfl
      rw [← hj16, ← hj7, ← hj15, ← hj2] at hnx
      generalize (wl (wAt p m) k).getD j16 0 = y16 at a16 x16 hnx
      generalize (wl (wAt p m) k).getD j7 0 = y7 at a7 x7 hnx
      generalize (wl (wAt p m) k).getD j15 0 = y15 at a15 x15 hnx
      generalize (wl (wAt p m) k).getD j2 0 = y2 at a2 x2 hnx
      have c15 := hW.cellAt _ _ a15
      have c2 := hW.cellAt _ _ a2
      have HA16 := Lib.hid a16
      have HA7 := Lib.hid a7
      have HNX := Lib.hid hnx
      have HLN := Lib.hid hlen
      have e16 : IntKind.i64.wrap ((k : Int) - 16) = (j16 : Int) := by rw [IntKind.wrap_i64]; omega
      have e7 : IntKind.i64.wrap ((k : Int) - 7) = (j7 : Int) := by rw [IntKind.wrap_i64]; omega
      have e15 : IntKind.i64.wrap ((k : Int) - 15) = (j15 : Int) := by rw [IntKind.wrap_i64]; omega
      have e2 : IntKind.i64.wrap ((k : Int) - 2) = (j2 : Int) := by rw [IntKind.wrap_i64]; omega
      have d15 : (k : Int) - 15 = (j15 : Int) := by omega
      have d2 : (k : Int) - 2 = (j2 : Int) := by omega
      have b16 : (j16 : Int) < 64 := by omega
      have b7 : (j7 : Int) < 64 := by omega
      have b15 : (j15 : Int) < 64 := by omega
      have b2 : (j2 : Int) < 64 := by omega
      have hfrk := HW.out
      clear hwl hat hW hlen a16 a7 a15 a2 hnx hj16 hj7 hj15 hj2 hfrk
      go_wp2_with fail
      go_quiet (fail)
      go_wp2_with fail
      obtain ⟨w7, hw7⟩ : ∃ x, x = (wr.drewN nq).drew := ⟨_, rfl⟩
      have HW7 := Lib.hid (show OwnN w4.heap.size 64 .u32 (.slice (some ⟨w4.heap.size, 0, none⟩) 64 64) (arrW (wAt p m) k) w7 by rw [hw7]; exact HW.out)
      have HB7 := Lib.hid (show Below w4.heap.size w4 w7 by rw [hw7]; exact drawn_below (drawn_below HB5.out nq) 1)
      refine wp_region_still_tail 32 (by kernel_rfl) (by kernel_rfl) ?_
      simp only [List.take_succ_cons, List.take_zero, List.drop_succ_cons, List.drop_zero]
      change wpStill _ _ (wr.drewN nq).drew (fun a' => wpList _ _ _ _ a' (wr.drewN nq).drew) _ _
      rw [← hw7]
      clear hw7 c15 c2
      have hW := HW7.out
      have hfr := OwnN.frozenAt HLN.out.symm hW k
      have HST5 := Lib.hid (OwnN.stored HLN.out.symm hW k (nextW (wl (wAt p m) k) k))
      rw [arrW_next (by omega) hlk] at HST5
      rw [← HLN.out] at hW
      have c16 := hW.cellAt _ _ HA16.out
      have c7 := hW.cellAt _ _ HA7.out
      have ck := hW.cellAt k 0 (by unfold arrW; rw [List.getElem?_append_right (by rw [wl_len]; exact Nat.le_refl _), wl_len, Nat.sub_self, List.getElem?_replicate, if_pos (by omega)])
      clear hW e15 e2 d15 d2 b15 b2
      repeat still_step
      still_call (turn_still y15 7 _ x15 (by decide) (by decide))
      repeat still_step
      still_call (turn_still y15 18 _ x15 (by decide) (by decide))
      repeat still_step
      still_call (turn_still y2 17 _ x2 (by decide) (by decide))
      repeat still_step
      still_call (turn_still y2 19 _ x2 (by decide) (by decide))
      repeat still_step
      refine wpStill_nil ?_
      go_wp2_with fail
      have hv := w_int y16 y7 y15 y2 x15 x2 (by omega) (by omega)
      rw [← HNX.out, show ((y15 / 8 : Nat) : Int) = (y15 : Int) / 8 by omega, show ((y2 / 1024 : Nat) : Int) = (y2 : Int) / 1024 by omega] at hv
      refine ⟨⟨k + 1, by omega, by omega, by go_num, ?_, below_set HB7.out (Nat.le_refl _) _ _⟩, by simp [intOf]; omega⟩
      rw [hv]
      exact HST5.out
    · obtain rfl : k = 64 := by omega
      rw [show ((64 : Nat) : Int) = 64 from rfl]
      rw [arrW_full] at HW
      go_wp2_with fail
      exact ends_exit (hexit.out _ ⟨HW.out, HB5.out⟩)
end Go.Proofs.YthgfpojfnhkckaaDoor
