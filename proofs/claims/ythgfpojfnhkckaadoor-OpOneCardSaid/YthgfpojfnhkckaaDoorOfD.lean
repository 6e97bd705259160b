/-
  The document's Of: a block's rounds.
-/
import Derived.Test.YthgfpojfnhkckaaDoorOfA
namespace Go.Proofs.YthgfpojfnhkckaaDoor
open Go.RowKit

set_option maxHeartbeats 4000000 in
set_option maxRecDepth 100000 in
theorem of_loop7 {p : List Nat} {m : Nat} {h0 : S8} {v7 : Value} {w w6 : World} {BK BW kb wb : Nat}
    {ca0 ca1 ca2 ca3 ca5 ca6 ca7 ca8 ca10 ca11 ca12 ca13 ca14 ub17 ub18 ca19 ca20 ca21 ca22 ca23 ca24 ca25 ca26 ca27 ca28 ca29 ca30 ca31 ca32 ca33
    ca34 ca35 ca36 ca37 ca38 ca39 ca40 ca41 ca42 ca43 ca44 ca45 ca46 ca47 ca48 ca49 ca50 ca51 ca52 ca53 ca54 ca55 ca56 ca57 ca58 ca59 ca60 ca61 ca62 ca63
    ca64 ca65 ca66 ca67 ca68 ca69 ca70 ca71 ca72 ca73 ca74 ca75 ca76 ca77 ca78 ca79 ca80 ca81 ca82 ca83 ca84 ca85 ca86 ca87 ca88 ca89 ca90 ca91 ca92 ca93
    ca94 ca95 ca96 ca97 ca98 ca99 ca100 ca101 ca102 ca103 ca104 ca105 ca106 ca107 ca108 ca109 ca110 ca111 ca112 ca113 ca114 ca115 ca116 ca117 ca118 ca119 ca120 ca121 ca122 ca123
    ca124 ca125 ca126 ca127 ca128 ca129 ca130 ca131 ca132 ca133 ca134 ca135 ub136 ub137 ub138 ub139 ub140 ub141 ub142 ub143 ub144 ub145 ub146 ub147 ub148 ub149 ub150 ub151 ub152 ub153
    ub154 ub155 ub156 ub157 ub158 ub159 ub160 ub161 ub162 ub163 ub164 ub165 ub166 ub167 ub168 ub169 ub170 ub171 ub172 ub173 ub174 ub175 ub176 ub177 ub178 ub179 ub180 ub181 ub182 ub183
    ub184 ub185 ub186 ub187 ub188 ub189 ub190 ub191 ub192 ub193 ub194 ub195 ub196 ub197 ub198 ub199 ub200 ub201 ub202 ub203 ub204 ub205 ub206 ub207 ub208 ub209 ub210 ub211 ub212 ub213
    ub214 ub215 ub216 ub217 ub218 ub219 ub220 ub221 ub222 ub223 ub224 ub225 ub226 ub227 ub228 ub229 ub230 ub231 ub232 ub233 ub234 ub235 ub236 ub237 ub238 ub239 ub240 ub241 ub242 ub243
    ub244 ub245 ub246 ub247 ub248 ub249 ca250 ca251 ca252 ca253 ca254 ca255 ca256 ca257 ca258 ca259 ca260 ca261 ca262 ca263 ca264 ca265 ca266 ca267 ca268 ca269 ca270 ca271 ca272 ca273
    ca274 ca275 ca276 ca277 ca278 ca279 ca280 ca281 ca282 ca283 ca284 ca285 ca286 : Value}
    (HBY : Hid (∀ j, wAt p m j < 256)) (HOK : Hid h0.Ok)
    (HK : Hid (OwnN BK 64 .u32 (.slice (some ⟨kb, 0, none⟩) 64 64) shaK w6)) (HW : Hid (OwnN BW 64 .u32 (.slice (some ⟨wb, 0, none⟩) 64 64) (wl (wAt p m) 64) w6))
    (HV : Hid (OwnN w6.heap.size 64 .u32 v7 h0.list w)) (HB7 : Hid (Below w6.heap.size w6 w))
    (R : Act → World → Prop)
    (hexit : Hid (∀ (v8 : Value) (w1 : World), OwnN w6.heap.size 64 .u32 v8 (rl h0 (wl (wAt p m) 64) 64).list w1 ∧ Below w6.heap.size w6 w1 → ∀ {vb16 vb17 vb18 vb136 vb137 vb138 vb139 vb140 vb141 vb142 vb143 vb144 vb145 vb146 vb147 vb148 vb149 vb150 vb151 vb152 vb153 vb154 vb155 vb156 vb157 vb158 vb159 vb160 vb161 vb162
    vb163 vb164 vb165 vb166 vb167 vb168 vb169 vb170 vb171 vb172 vb173 vb174 vb175 vb176 vb177 vb178 vb179 vb180 vb181 vb182 vb183 vb184 vb185 vb186 vb187 vb188 vb189 vb190 vb191 vb192
    vb193 vb194 vb195 vb196 vb197 vb198 vb199 vb200 vb201 vb202 vb203 vb204 vb205 vb206 vb207 vb208 vb209 vb210 vb211 vb212 vb213 vb214 vb215 vb216 vb217 vb218 vb219 vb220 vb221 vb222
    vb223 vb224 vb225 vb226 vb227 vb228 vb229 vb230 vb231 vb232 vb233 vb234 vb235 vb236 vb237 vb238 vb239 vb240 vb241 vb242 vb243 vb244 vb245 vb246 vb247 vb248 vb249 : Value},
      R ⟨List.toArray (ca0 :: ca1 :: ca2 :: ca3 :: .slice (some ⟨kb, 0, none⟩) 64 64 :: ca5 :: ca6 :: ca7 :: ca8 :: .slice (some ⟨wb, 0, none⟩) 64 64 :: ca10 :: ca11 :: ca12 :: ca13 :: ca14 :: v8 :: vb16 :: vb17 :: vb18 :: ca19 :: ca20 :: ca21 ::
      ca22 :: ca23 :: ca24 :: ca25 :: ca26 :: ca27 :: ca28 :: ca29 :: ca30 :: ca31 :: ca32 :: ca33 :: ca34 :: ca35 :: ca36 :: ca37 :: ca38 :: ca39 :: ca40 :: ca41 :: ca42 :: ca43 :: ca44 :: ca45 :: ca46 :: ca47 :: ca48 :: ca49 ::
      ca50 :: ca51 :: ca52 :: ca53 :: ca54 :: ca55 :: ca56 :: ca57 :: ca58 :: ca59 :: ca60 :: ca61 :: ca62 :: ca63 :: ca64 :: ca65 :: ca66 :: ca67 :: ca68 :: ca69 :: ca70 :: ca71 :: ca72 :: ca73 :: ca74 :: ca75 :: ca76 :: ca77 ::
      ca78 :: ca79 :: ca80 :: ca81 :: ca82 :: ca83 :: ca84 :: ca85 :: ca86 :: ca87 :: ca88 :: ca89 :: ca90 :: ca91 :: ca92 :: ca93 :: ca94 :: ca95 :: ca96 :: ca97 :: ca98 :: ca99 :: ca100 :: ca101 :: ca102 :: ca103 :: ca104 :: ca105 ::
      ca106 :: ca107 :: ca108 :: ca109 :: ca110 :: ca111 :: ca112 :: ca113 :: ca114 :: ca115 :: ca116 :: ca117 :: ca118 :: ca119 :: ca120 :: ca121 :: ca122 :: ca123 :: ca124 :: ca125 :: ca126 :: ca127 :: ca128 :: ca129 :: ca130 ::
      ca131 :: ca132 :: ca133 :: ca134 :: ca135 :: vb136 :: vb137 :: vb138 :: vb139 :: vb140 :: vb141 :: vb142 :: vb143 :: vb144 :: vb145 :: vb146 :: vb147 :: vb148 :: vb149 :: vb150 :: vb151 :: vb152 :: vb153 :: vb154 :: vb155 ::
      vb156 :: vb157 :: vb158 :: vb159 :: vb160 :: vb161 :: vb162 :: vb163 :: vb164 :: vb165 :: vb166 :: vb167 :: vb168 :: vb169 :: vb170 :: vb171 :: vb172 :: vb173 :: vb174 :: vb175 :: vb176 :: vb177 :: vb178 :: vb179 :: vb180 ::
      vb181 :: vb182 :: vb183 :: vb184 :: vb185 :: vb186 :: vb187 :: vb188 :: vb189 :: vb190 :: vb191 :: vb192 :: vb193 :: vb194 :: vb195 :: vb196 :: vb197 :: vb198 :: vb199 :: vb200 :: vb201 :: vb202 :: vb203 :: vb204 :: vb205 ::
      vb206 :: vb207 :: vb208 :: vb209 :: vb210 :: vb211 :: vb212 :: vb213 :: vb214 :: vb215 :: vb216 :: vb217 :: vb218 :: vb219 :: vb220 :: vb221 :: vb222 :: vb223 :: vb224 :: vb225 :: vb226 :: vb227 :: vb228 :: vb229 :: vb230 ::
      vb231 :: vb232 :: vb233 :: vb234 :: vb235 :: vb236 :: vb237 :: vb238 :: vb239 :: vb240 :: vb241 :: vb242 :: vb243 :: vb244 :: vb245 :: vb246 :: vb247 :: vb248 :: vb249 :: ca250 :: ca251 :: ca252 :: ca253 :: ca254 :: ca255 ::
      ca256 :: ca257 :: ca258 :: ca259 :: ca260 :: ca261 :: ca262 :: ca263 :: ca264 :: ca265 :: ca266 :: ca267 :: ca268 :: ca269 :: ca270 :: ca271 :: ca272 :: ca273 :: ca274 :: ca275 :: ca276 :: ca277 :: ca278 :: ca279 :: ca280 ::
      ca281 :: ca282 :: ca283 :: ca284 :: ca285 :: ca286 :: []), []⟩ w1)) :
    Code.wp Tryd.prog (Code.loop (loopAt Tryd.f33 6)) (Ends 12 R) ⟨List.toArray (ca0 :: ca1 :: ca2 :: ca3 :: .slice (some ⟨kb, 0, none⟩) 64 64 :: ca5 :: ca6 :: ca7 :: ca8 :: .slice (some ⟨wb, 0, none⟩) 64 64 :: ca10 :: ca11 :: ca12 :: ca13 :: ca14 :: v7 :: .int .i64 0 :: ub17 :: ub18 :: ca19 :: ca20 ::
      ca21 :: ca22 :: ca23 :: ca24 :: ca25 :: ca26 :: ca27 :: ca28 :: ca29 :: ca30 :: ca31 :: ca32 :: ca33 :: ca34 :: ca35 :: ca36 :: ca37 :: ca38 :: ca39 :: ca40 :: ca41 :: ca42 :: ca43 :: ca44 :: ca45 :: ca46 :: ca47 :: ca48 ::
      ca49 :: ca50 :: ca51 :: ca52 :: ca53 :: ca54 :: ca55 :: ca56 :: ca57 :: ca58 :: ca59 :: ca60 :: ca61 :: ca62 :: ca63 :: ca64 :: ca65 :: ca66 :: ca67 :: ca68 :: ca69 :: ca70 :: ca71 :: ca72 :: ca73 :: ca74 :: ca75 :: ca76 ::
      ca77 :: ca78 :: ca79 :: ca80 :: ca81 :: ca82 :: ca83 :: ca84 :: ca85 :: ca86 :: ca87 :: ca88 :: ca89 :: ca90 :: ca91 :: ca92 :: ca93 :: ca94 :: ca95 :: ca96 :: ca97 :: ca98 :: ca99 :: ca100 :: ca101 :: ca102 :: ca103 :: ca104 ::
      ca105 :: ca106 :: ca107 :: ca108 :: ca109 :: ca110 :: ca111 :: ca112 :: ca113 :: ca114 :: ca115 :: ca116 :: ca117 :: ca118 :: ca119 :: ca120 :: ca121 :: ca122 :: ca123 :: ca124 :: ca125 :: ca126 :: ca127 :: ca128 :: ca129 ::
      ca130 :: ca131 :: ca132 :: ca133 :: ca134 :: ca135 :: ub136 :: ub137 :: ub138 :: ub139 :: ub140 :: ub141 :: ub142 :: ub143 :: ub144 :: ub145 :: ub146 :: ub147 :: ub148 :: ub149 :: ub150 :: ub151 :: ub152 :: ub153 :: ub154 ::
      ub155 :: ub156 :: ub157 :: ub158 :: ub159 :: ub160 :: ub161 :: ub162 :: ub163 :: ub164 :: ub165 :: ub166 :: ub167 :: ub168 :: ub169 :: ub170 :: ub171 :: ub172 :: ub173 :: ub174 :: ub175 :: ub176 :: ub177 :: ub178 :: ub179 ::
      ub180 :: ub181 :: ub182 :: ub183 :: ub184 :: ub185 :: ub186 :: ub187 :: ub188 :: ub189 :: ub190 :: ub191 :: ub192 :: ub193 :: ub194 :: ub195 :: ub196 :: ub197 :: ub198 :: ub199 :: ub200 :: ub201 :: ub202 :: ub203 :: ub204 ::
      ub205 :: ub206 :: ub207 :: ub208 :: ub209 :: ub210 :: ub211 :: ub212 :: ub213 :: ub214 :: ub215 :: ub216 :: ub217 :: ub218 :: ub219 :: ub220 :: ub221 :: ub222 :: ub223 :: ub224 :: ub225 :: ub226 :: ub227 :: ub228 :: ub229 ::
      ub230 :: ub231 :: ub232 :: ub233 :: ub234 :: ub235 :: ub236 :: ub237 :: ub238 :: ub239 :: ub240 :: ub241 :: ub242 :: ub243 :: ub244 :: ub245 :: ub246 :: ub247 :: ub248 :: ub249 :: ca250 :: ca251 :: ca252 :: ca253 :: ca254 ::
      ca255 :: ca256 :: ca257 :: ca258 :: ca259 :: ca260 :: ca261 :: ca262 :: ca263 :: ca264 :: ca265 :: ca266 :: ca267 :: ca268 :: ca269 :: ca270 :: ca271 :: ca272 :: ca273 :: ca274 :: ca275 :: ca276 :: ca277 :: ca278 :: ca279 ::
      ca280 :: ca281 :: ca282 :: ca283 :: ca284 :: ca285 :: ca286 :: []), []⟩ w := by
  conv => arg 2; arg 1; whnf

  go_loopw [15, 16] (fun v i wq => ∃ k : Nat, k ≤ 64 ∧ i = .int .i64 k ∧ OwnN w6.heap.size 64 .u32 v (rl h0 (wl (wAt p m) 64) k).list wq ∧ Below w6.heap.size w6 wq) (fun _ i _ => 64 - (intOf i).toNat)
  case atStart => exact ⟨0, by omega, rfl, HV.out, HB7.out⟩
  case round =>
    clear HV HB7
    obtain ⟨k, hk, rfl, ho, hb⟩ := hrel
    obtain ⟨gv, cv, rfl, hgv, hgv2⟩ := ho.formB (Nat.zero_lt_succ 7)
    have hok := rl_ok HOK.out (wl (wAt p m) 64) k
    have HSTr := Lib.hid (HK.out.below hb)
    have HWr := Lib.hid (HW.out.below hb)
    have HV := Lib.hid ho
    have HB7 := Lib.hid hb
    have HX := Lib.hid (show rl (h0) (wl (wAt p m) 64) (k + 1) = rnd (rl (h0) (wl (wAt p m) 64) k) (shaK.getD k 0) ((wl (wAt p m) 64).getD k 0) from rfl)
    clear hb
    by_cases hlk : k < 64
    · generalize rl (h0) (wl (wAt p m) 64) k = v at ho hok HV HX ⊢
      have c0 := ho.cellAt 0 _ rfl
      have c1 := ho.cellAt 1 _ rfl
      have c2 := ho.cellAt 2 _ rfl
      have c3 := ho.cellAt 3 _ rfl
      have c4 := ho.cellAt 4 _ rfl
      have c5 := ho.cellAt 5 _ rfl
      have c6 := ho.cellAt 6 _ rfl
      have c7 := ho.cellAt 7 _ rfl
      have hK := HSTr.out
      have hW := HWr.out
      have cK := hK.cellN shaK_len.symm k hlk
      have cW := hW.cellN (wl_len (wAt p m) 64).symm k hlk
      have xK := getD_lt shaK_lt (by decide) k
      have xW := getD_lt (wl_lt HBY.out 64) (by decide) k
      generalize shaK.getD k 0 = kk at cK xK HX
      generalize (wl (wAt p m) 64).getD k 0 = ww at cW xW HX
      clear hK hW ho
      obtain ⟨q0, q1, q2, q3, q4, q5, q6, q7⟩ := v
      obtain ⟨b0, b1, b2, b3, b4, b5, b6, b7⟩ := hok
      rw [show (S8.list ⟨q0, q1, q2, q3, q4, q5, q6, q7⟩).length = 8 from rfl]
      simp only at c0 c1 c2 c3 c4 c5 c6 c7 b0 b1 b2 b3 b4 b5 b6 b7
      go_wp2_with fail
      go_quiet (first | (go_at_call 44; refine Calls.quiet_of_same (turn_still _ _ _ (by assumption) (by decide) (by decide))))
      go_wp2_with fail
      rw [t_int q0 q1 q2 q3 q4 q5 q6 q7 kk ww b4 b5 b6]
      have ht := tN_lt ⟨q0, q1, q2, q3, q4, q5, q6, q7⟩ kk ww
      have HT := Lib.hid (show (rnd ⟨q0, q1, q2, q3, q4, q5, q6, q7⟩ kk ww).list = [(tN ⟨q0, q1, q2, q3, q4, q5, q6, q7⟩ kk ww + uN ⟨q0, q1, q2, q3, q4, q5, q6, q7⟩) % 4294967296, q0, q1, q2, (q3 + tN ⟨q0, q1, q2, q3, q4, q5, q6, q7⟩ kk ww) % 4294967296, q4, q5, q6] from rfl)
      have hu := uN_lt ⟨q0, q1, q2, q3, q4, q5, q6, q7⟩
      have HU := Lib.hid (u_int q0 q1 q2 q3 q4 q5 q6 q7 b0 b1 b2)
      generalize tN ⟨q0, q1, q2, q3, q4, q5, q6, q7⟩ kk ww = t at ht HT ⊢
      generalize uN ⟨q0, q1, q2, q3, q4, q5, q6, q7⟩ = u at hu HT HU
      obtain ⟨w8, hw8⟩ : ∃ x, x = wr.drewN nq := ⟨_, rfl⟩
      rw [← hw8]
      replace c0 : w8.cell? ⟨gv, 0, none⟩ = some (.int .u32 (q0 : Int)) := by rw [hw8]; exact c0
      replace c1 : w8.cell? ⟨gv, 1, none⟩ = some (.int .u32 (q1 : Int)) := by rw [hw8]; exact c1
      replace c2 : w8.cell? ⟨gv, 2, none⟩ = some (.int .u32 (q2 : Int)) := by rw [hw8]; exact c2
      replace c3 : w8.cell? ⟨gv, 3, none⟩ = some (.int .u32 (q3 : Int)) := by rw [hw8]; exact c3
      replace c4 : w8.cell? ⟨gv, 4, none⟩ = some (.int .u32 (q4 : Int)) := by rw [hw8]; exact c4
      replace c5 : w8.cell? ⟨gv, 5, none⟩ = some (.int .u32 (q5 : Int)) := by rw [hw8]; exact c5
      replace c6 : w8.cell? ⟨gv, 6, none⟩ = some (.int .u32 (q6 : Int)) := by rw [hw8]; exact c6
      have HB8 := Lib.hid (show Below w6.heap.size w6 w8 by rw [hw8]; exact drawn_below HB7.out nq)
      clear hw8 c7 cK cW xK xW
      go_quiet (first | (go_at_call 44; refine Calls.quiet_of_same (turn_still _ _ _ (by assumption) (by decide) (by decide))))
      go_wp2_with fail
      rw [HU.out]
      obtain ⟨w9, hw9⟩ : ∃ x, x = (w8.drewN nq).drew := ⟨_, rfl⟩
      replace c0 : w9.cell? ⟨gv, 0, none⟩ = some (.int .u32 (q0 : Int)) := by rw [hw9]; exact c0
      replace c1 : w9.cell? ⟨gv, 1, none⟩ = some (.int .u32 (q1 : Int)) := by rw [hw9]; exact c1
      replace c2 : w9.cell? ⟨gv, 2, none⟩ = some (.int .u32 (q2 : Int)) := by rw [hw9]; exact c2
      replace c3 : w9.cell? ⟨gv, 3, none⟩ = some (.int .u32 (q3 : Int)) := by rw [hw9]; exact c3
      replace c4 : w9.cell? ⟨gv, 4, none⟩ = some (.int .u32 (q4 : Int)) := by rw [hw9]; exact c4
      replace c5 : w9.cell? ⟨gv, 5, none⟩ = some (.int .u32 (q5 : Int)) := by rw [hw9]; exact c5
      replace c6 : w9.cell? ⟨gv, 6, none⟩ = some (.int .u32 (q6 : Int)) := by rw [hw9]; exact c6
      have HB9 := Lib.hid (show Below w6.heap.size w6 w9 by rw [hw9]; exact drawn_below HB8.out (nq + 1))
      refine wp_region_still_tail 26 (by kernel_rfl) (by kernel_rfl) ?_
      simp only [List.take_succ_cons, List.take_zero, List.drop_succ_cons, List.drop_zero]
      change wpStill _ _ (w8.drewN nq).drew (fun a' => wpList _ _ _ _ a' (w8.drewN nq).drew) _ _
      rw [← hw9]
      clear hw9
      repeat still_step
      refine wpStill_nil ?_
      go_wp2_with fail
      refine ⟨⟨k + 1, by omega, by go_num, ?_, HB9.out.alloc HB9.out.size _⟩, by simp [intOf]; omega⟩
      rw [HX.out, OwnN, HT.out]
      have h := World.ownsRow_lit (base := w6.heap.size) (e := 64) (size := 1) w9 (nums .u32 [(t + u) % 4294967296, q0, q1, q2, (q3 + t) % 4294967296, q4, q5, q6]).toArray 8 HB9.out.size (by unfold maxLen; omega) rfl
      simpa [nums] using h
    · obtain rfl : k = 64 := by omega
      rw [show ((64 : Nat) : Int) = 64 from rfl]
      go_wp2_with fail
      exact ends_exit (hexit.out _ _ ⟨HV.out, HB7.out⟩)
end Go.Proofs.YthgfpojfnhkckaaDoor
