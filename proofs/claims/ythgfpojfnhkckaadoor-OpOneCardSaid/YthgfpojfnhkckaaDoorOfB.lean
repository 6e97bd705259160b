/-
  The document's Of: the loops that read a block's words.
-/
import Derived.Test.YthgfpojfnhkckaaDoorOfA
namespace Go.Proofs.YthgfpojfnhkckaaDoor
open Go.RowKit

set_option maxHeartbeats 4000000 in
set_option maxRecDepth 100000 in
theorem of_loop5 {B0 k : Nat} {p : List Nat} {g3 cap3 m : Nat} {w4 w : World}
    {ca0 ca1 ca2 ca3 ca4 ca6 ca7 ca12 ca13 ca14 ca15 ca16 ca17 ca18 ca19 ca20 ca21 ca22 ca23 ca24 ca25 ca26 ca27 ca28 ca29 ca30 ca31 ca32 ca33 ca34
    ca35 ca36 ca37 ca38 ca39 ca40 ca41 ca42 ca43 ca44 ca45 ca46 ca47 ca48 ca49 ca50 ca51 ca52 ca53 ca54 ca55 ca56 ca57 ca58 ca59 ca60 ca61 ca62 ca63 ub64
    ub65 ub66 ub67 ub68 ub69 ub70 ub71 ub72 ub73 ub74 ub75 ub76 ub77 ub78 ub79 ub80 ub81 ub82 ub83 ub84 ub85 ub86 ca87 ca88 ca89 ca90 ca91 ca92 ca93 ca94
    ca95 ca96 ca97 ca98 ca99 ca100 ca101 ca102 ca103 ca104 ca105 ca106 ca107 ca108 ca109 ca110 ca111 ca112 ca113 ca114 ca115 ca116 ca117 ca118 ca119 ca120 ca121 ca122 ca123 ca124
    ca125 ca126 ca127 ca128 ca129 ca130 ca131 ca132 ca133 ca134 ca135 ca136 ca137 ca138 ca139 ca140 ca141 ca142 ca143 ca144 ca145 ca146 ca147 ca148 ca149 ca150 ca151 ca152 ca153 ca154
    ca155 ca156 ca157 ca158 ca159 ca160 ca161 ca162 ca163 ca164 ca165 ca166 ca167 ca168 ca169 ca170 ca171 ca172 ca173 ca174 ca175 ca176 ca177 ca178 ca179 ca180 ca181 ca182 ca183 ca184
    ca185 ca186 ca187 ca188 ca189 ca190 ca191 ca192 ca193 ca194 ca195 ca196 ca197 ca198 ca199 ca200 ca201 ca202 ca203 ca204 ca205 ca206 ca207 ca208 ca209 ca210 ca211 ca212 ca213 ca214
    ca215 ca216 ca217 ca218 ca219 ca220 ca221 ca222 ca223 ca224 ca225 ca226 ca227 ca228 ca229 ca230 ca231 ca232 ca233 ca234 ca235 ca236 ca237 ca238 ca239 ca240 ca241 ca242 ca243 ca244
    ca245 ca246 ca247 ca248 ca249 ca250 ca251 ca252 ca253 ca254 ca255 ca256 ca257 ca258 ca259 ca260 ca261 ca262 ca263 ca264 ca265 ca266 ca267 ca268 ca269 ca270 ca271 ca272 ca273 ca274
    ca275 ca276 ca277 ca278 ca279 ca280 ca281 ca282 ca283 ca284 ca285 ca286 : Value}
    (hpl3 : p.length ≤ 140737488350100) (hm : 64 * m + 64 ≤ p.length) (hst : Hid (OwnT B0 5 .u8 (.slice (some ⟨g3, 0, none⟩) p.length cap3) p w4)) (HBY : Hid (∀ j, wAt p m j < 256)) (hlk : k < 16)
    (HW : Hid (OwnN w4.heap.size 64 .u32 (.slice (some ⟨w4.heap.size, 0, none⟩) 64 64) (arrW (wAt p m) k) w)) (HB5 : Hid (Below w4.heap.size w4 w))
    (R : Act → World → Prop)
    (hexit : Hid (∀  (w1 : World), OwnN w4.heap.size 64 .u32 (.slice (some ⟨w4.heap.size, 0, none⟩) 64 64) (arrW (wAt p m) (k + 1)) w1 ∧ Below w4.heap.size w4 w1 → ∀ {vb11 vb64 vb65 vb66 vb67 vb68 vb69 vb70 vb71 vb72 vb73 vb74 vb75 vb76 vb77 vb78 vb79 vb80 vb81 vb82 vb83 vb84 vb85 vb86 : Value},
      R ⟨List.toArray (ca0 :: ca1 :: ca2 :: ca3 :: ca4 :: .slice (some ⟨g3, 0, none⟩) p.length cap3 :: ca6 :: ca7 :: .int .i64 ((64 * m : Nat) : Int) :: .slice (some ⟨w4.heap.size, 0, none⟩) 64 64 :: .int .i64 (k : Int) :: vb11 :: ca12 :: ca13 ::
      ca14 :: ca15 :: ca16 :: ca17 :: ca18 :: ca19 :: ca20 :: ca21 :: ca22 :: ca23 :: ca24 :: ca25 :: ca26 :: ca27 :: ca28 :: ca29 :: ca30 :: ca31 :: ca32 :: ca33 :: ca34 :: ca35 :: ca36 :: ca37 :: ca38 :: ca39 :: ca40 :: ca41 ::
      ca42 :: ca43 :: ca44 :: ca45 :: ca46 :: ca47 :: ca48 :: ca49 :: ca50 :: ca51 :: ca52 :: ca53 :: ca54 :: ca55 :: ca56 :: ca57 :: ca58 :: ca59 :: ca60 :: ca61 :: ca62 :: ca63 :: vb64 :: vb65 :: vb66 :: vb67 :: vb68 :: vb69 ::
      vb70 :: vb71 :: vb72 :: vb73 :: vb74 :: vb75 :: vb76 :: vb77 :: vb78 :: vb79 :: vb80 :: vb81 :: vb82 :: vb83 :: vb84 :: vb85 :: vb86 :: ca87 :: ca88 :: ca89 :: ca90 :: ca91 :: ca92 :: ca93 :: ca94 :: ca95 :: ca96 :: ca97 ::
      ca98 :: ca99 :: ca100 :: ca101 :: ca102 :: ca103 :: ca104 :: ca105 :: ca106 :: ca107 :: ca108 :: ca109 :: ca110 :: ca111 :: ca112 :: ca113 :: ca114 :: ca115 :: ca116 :: ca117 :: ca118 :: ca119 :: ca120 :: ca121 :: ca122 ::
      ca123 :: ca124 :: ca125 :: ca126 :: ca127 :: ca128 :: ca129 :: ca130 :: ca131 :: ca132 :: ca133 :: ca134 :: ca135 :: ca136 :: ca137 :: ca138 :: ca139 :: ca140 :: ca141 :: ca142 :: ca143 :: ca144 :: ca145 :: ca146 :: ca147 ::
      ca148 :: ca149 :: ca150 :: ca151 :: ca152 :: ca153 :: ca154 :: ca155 :: ca156 :: ca157 :: ca158 :: ca159 :: ca160 :: ca161 :: ca162 :: ca163 :: ca164 :: ca165 :: ca166 :: ca167 :: ca168 :: ca169 :: ca170 :: ca171 :: ca172 ::
      ca173 :: ca174 :: ca175 :: ca176 :: ca177 :: ca178 :: ca179 :: ca180 :: ca181 :: ca182 :: ca183 :: ca184 :: ca185 :: ca186 :: ca187 :: ca188 :: ca189 :: ca190 :: ca191 :: ca192 :: ca193 :: ca194 :: ca195 :: ca196 :: ca197 ::
      ca198 :: ca199 :: ca200 :: ca201 :: ca202 :: ca203 :: ca204 :: ca205 :: ca206 :: ca207 :: ca208 :: ca209 :: ca210 :: ca211 :: ca212 :: ca213 :: ca214 :: ca215 :: ca216 :: ca217 :: ca218 :: ca219 :: ca220 :: ca221 :: ca222 ::
      ca223 :: ca224 :: ca225 :: ca226 :: ca227 :: ca228 :: ca229 :: ca230 :: ca231 :: ca232 :: ca233 :: ca234 :: ca235 :: ca236 :: ca237 :: ca238 :: ca239 :: ca240 :: ca241 :: ca242 :: ca243 :: ca244 :: ca245 :: ca246 :: ca247 ::
      ca248 :: ca249 :: ca250 :: ca251 :: ca252 :: ca253 :: ca254 :: ca255 :: ca256 :: ca257 :: ca258 :: ca259 :: ca260 :: ca261 :: ca262 :: ca263 :: ca264 :: ca265 :: ca266 :: ca267 :: ca268 :: ca269 :: ca270 :: ca271 :: ca272 ::
      ca273 :: ca274 :: ca275 :: ca276 :: ca277 :: ca278 :: ca279 :: ca280 :: ca281 :: ca282 :: ca283 :: ca284 :: ca285 :: ca286 :: []), []⟩ w1)) :
    Code.wp Tryd.prog (Code.loop (loopAt Tryd.f33 4)) (Ends 8 R) ⟨List.toArray (ca0 :: ca1 :: ca2 :: ca3 :: ca4 :: .slice (some ⟨g3, 0, none⟩) p.length cap3 :: ca6 :: ca7 :: .int .i64 ((64 * m : Nat) : Int) :: .slice (some ⟨w4.heap.size, 0, none⟩) 64 64 :: .int .i64 (k : Int) :: .int .i64 0 :: ca12 ::
      ca13 :: ca14 :: ca15 :: ca16 :: ca17 :: ca18 :: ca19 :: ca20 :: ca21 :: ca22 :: ca23 :: ca24 :: ca25 :: ca26 :: ca27 :: ca28 :: ca29 :: ca30 :: ca31 :: ca32 :: ca33 :: ca34 :: ca35 :: ca36 :: ca37 :: ca38 :: ca39 :: ca40 ::
      ca41 :: ca42 :: ca43 :: ca44 :: ca45 :: ca46 :: ca47 :: ca48 :: ca49 :: ca50 :: ca51 :: ca52 :: ca53 :: ca54 :: ca55 :: ca56 :: ca57 :: ca58 :: ca59 :: ca60 :: ca61 :: ca62 :: ca63 :: ub64 :: ub65 :: ub66 :: ub67 :: ub68 ::
      ub69 :: ub70 :: ub71 :: ub72 :: ub73 :: ub74 :: ub75 :: ub76 :: ub77 :: ub78 :: ub79 :: ub80 :: ub81 :: ub82 :: ub83 :: ub84 :: ub85 :: ub86 :: ca87 :: ca88 :: ca89 :: ca90 :: ca91 :: ca92 :: ca93 :: ca94 :: ca95 :: ca96 ::
      ca97 :: ca98 :: ca99 :: ca100 :: ca101 :: ca102 :: ca103 :: ca104 :: ca105 :: ca106 :: ca107 :: ca108 :: ca109 :: ca110 :: ca111 :: ca112 :: ca113 :: ca114 :: ca115 :: ca116 :: ca117 :: ca118 :: ca119 :: ca120 :: ca121 ::
      ca122 :: ca123 :: ca124 :: ca125 :: ca126 :: ca127 :: ca128 :: ca129 :: ca130 :: ca131 :: ca132 :: ca133 :: ca134 :: ca135 :: ca136 :: ca137 :: ca138 :: ca139 :: ca140 :: ca141 :: ca142 :: ca143 :: ca144 :: ca145 :: ca146 ::
      ca147 :: ca148 :: ca149 :: ca150 :: ca151 :: ca152 :: ca153 :: ca154 :: ca155 :: ca156 :: ca157 :: ca158 :: ca159 :: ca160 :: ca161 :: ca162 :: ca163 :: ca164 :: ca165 :: ca166 :: ca167 :: ca168 :: ca169 :: ca170 :: ca171 ::
      ca172 :: ca173 :: ca174 :: ca175 :: ca176 :: ca177 :: ca178 :: ca179 :: ca180 :: ca181 :: ca182 :: ca183 :: ca184 :: ca185 :: ca186 :: ca187 :: ca188 :: ca189 :: ca190 :: ca191 :: ca192 :: ca193 :: ca194 :: ca195 :: ca196 ::
      ca197 :: ca198 :: ca199 :: ca200 :: ca201 :: ca202 :: ca203 :: ca204 :: ca205 :: ca206 :: ca207 :: ca208 :: ca209 :: ca210 :: ca211 :: ca212 :: ca213 :: ca214 :: ca215 :: ca216 :: ca217 :: ca218 :: ca219 :: ca220 :: ca221 ::
      ca222 :: ca223 :: ca224 :: ca225 :: ca226 :: ca227 :: ca228 :: ca229 :: ca230 :: ca231 :: ca232 :: ca233 :: ca234 :: ca235 :: ca236 :: ca237 :: ca238 :: ca239 :: ca240 :: ca241 :: ca242 :: ca243 :: ca244 :: ca245 :: ca246 ::
      ca247 :: ca248 :: ca249 :: ca250 :: ca251 :: ca252 :: ca253 :: ca254 :: ca255 :: ca256 :: ca257 :: ca258 :: ca259 :: ca260 :: ca261 :: ca262 :: ca263 :: ca264 :: ca265 :: ca266 :: ca267 :: ca268 :: ca269 :: ca270 :: ca271 ::
      ca272 :: ca273 :: ca274 :: ca275 :: ca276 :: ca277 :: ca278 :: ca279 :: ca280 :: ca281 :: ca282 :: ca283 :: ca284 :: ca285 :: ca286 :: []), []⟩ w := by
  conv => arg 2; arg 1; whnf

  go_loopw [11] (fun q wq => ∃ r : Nat, r ≤ 4 ∧ q = .int .i64 r ∧ OwnN w4.heap.size 64 .u32 (.slice (some ⟨w4.heap.size, 0, none⟩) 64 64) ((arrW (wAt p m) k).set k (accN (wAt p m) k r)) wq ∧ Below w4.heap.size w4 wq) (fun q _ => 4 - (intOf q).toNat)
  case atStart => exact ⟨0, by omega, rfl, by rw [show accN (wAt p m) k 0 = 0 from rfl, arrW_at (by omega)]; exact HW.out, HB5.out⟩
  case round =>
    clear HW HB5
    obtain ⟨r, hr, rfl, ho, hb⟩ := hrel
    have HW := Lib.hid ho
    have HB5 := Lib.hid hb
    clear ho hb
    by_cases hlr : r < 4
    · have hil : 64 * m + (4 * k + r) < p.length := by omega
      have hlen : ((arrW (wAt p m) k).set k (accN (wAt p m) k r)).length = 64 := by rw [List.length_set, arrW_len _ (by omega)]
      have hc1 : wr.cell? ⟨w4.heap.size, k, none⟩ = some (.int .u32 (accN (wAt p m) k r : Int)) := by
        have h := HW.out
        rw [← hlen] at h
        exact h.cellAt k _ (List.getElem?_set_self (by rw [arrW_len _ (by omega)]; omega))
      have hf1 : wr.frozen? ⟨w4.heap.size, k, none⟩ = false := HW.out.frozenAt hlen.symm k
      have hc2 : wr.cell? ⟨g3, 64 * m + 4 * k + r, none⟩ = some (.int .u8 (wAt p m (4 * k + r) : Int)) := by
        have h := (hst.out.below HB5.out).cells (g := g3) rfl _ hil
        rw [Nat.add_assoc, h]
        unfold wAt
        rw [List.getD_eq_getElem?_getD, List.getElem?_eq_getElem hil]
        rfl
      have hac := accN_lt HBY.out k r (by omega)
      have hby := HBY.out (4 * k + r)
      have HAC := Lib.hid (show accN (wAt p m) k (r + 1) = 256 * accN (wAt p m) k r + wAt p m (4 * k + r) from rfl)
      have HST5 := Lib.hid (HW.out.stored hlen.symm k (256 * accN (wAt p m) k r + wAt p m (4 * k + r)))
      clear hlen
      have b1 : (k : Int) < 64 := by omega
      have b2 : 64 * (m : Int) + 4 * (k : Int) + (r : Int) < (p.length : Int) := by omega
      have b3 : 0 ≤ 64 * (m : Int) + 4 * (k : Int) + (r : Int) := by omega
      have e1 : IntKind.i64.wrap (4 * (k : Int)) = 4 * (k : Int) := by rw [IntKind.wrap_i64]; omega
      have e2 : IntKind.i64.wrap (64 * (m : Int) + 4 * (k : Int)) = 64 * (m : Int) + 4 * (k : Int) := by rw [IntKind.wrap_i64]; omega
      have e3 : IntKind.i64.wrap (64 * (m : Int) + 4 * (k : Int) + (r : Int)) = 64 * (m : Int) + 4 * (k : Int) + (r : Int) := by rw [IntKind.wrap_i64]; omega
      have e4 : (64 * (m : Int) + 4 * (k : Int) + (r : Int)).toNat = 64 * m + 4 * k + r := by omega
      generalize accN (wAt p m) k r = acc at hc1 hac HAC HST5
      generalize wAt p m (4 * k + r) = by' at hc2 hby HAC HST5
      have e5 : IntKind.u32.wrap (256 * (acc : Int)) = 256 * (acc : Int) := by rw [IntKind.wrap_u32]; omega
      have e6 : IntKind.u32.wrap (by' : Int) = (by' : Int) := by rw [IntKind.wrap_u32]; omega
      have e7 : IntKind.u32.wrap (256 * (acc : Int) + (by' : Int)) = 256 * (acc : Int) + (by' : Int) := by rw [IntKind.wrap_u32]; omega
      go_wp2_with fail
      go_region
      clear e1 e2 e3 e4 e5 e6 e7 b2 b3
      go_wp2_with fail
      have hv : ((256 * acc + by' : Nat) : Int) = 256 * (acc : Int) + (by' : Int) := by omega
      exact ⟨⟨r + 1, by omega, by go_num, by
        have h := HST5.out
        rw [List.set_set, hv] at h
        rw [HAC.out]
        exact h, drawn_below (below_set HB5.out (Nat.le_refl _) _ _) 1⟩, by simp [intOf]; omega⟩
    · obtain rfl : r = 4 := by omega
      rw [accN_word, arrW_word hlk] at HW
      go_wp2_with fail
      exact ends_exit (hexit.out _ ⟨HW.out, HB5.out⟩)

set_option maxHeartbeats 4000000 in
set_option maxRecDepth 100000 in
theorem of_loop4 {B0 : Nat} {p : List Nat} {g3 cap3 m : Nat} {w4 w : World}
    {ca0 ca1 ca2 ca3 ca4 ca6 ca7 ub11 ca12 ca13 ca14 ca15 ca16 ca17 ca18 ca19 ca20 ca21 ca22 ca23 ca24 ca25 ca26 ca27 ca28 ca29 ca30 ca31 ca32 ca33
    ca34 ca35 ca36 ca37 ca38 ca39 ca40 ca41 ca42 ca43 ca44 ca45 ca46 ca47 ca48 ca49 ca50 ca51 ca52 ca53 ca54 ca55 ca56 ca57 ca58 ca59 ub60 ub61 ub62 ub63
    ub64 ub65 ub66 ub67 ub68 ub69 ub70 ub71 ub72 ub73 ub74 ub75 ub76 ub77 ub78 ub79 ub80 ub81 ub82 ub83 ub84 ub85 ub86 ca87 ca88 ca89 ca90 ca91 ca92 ca93
    ca94 ca95 ca96 ca97 ca98 ca99 ca100 ca101 ca102 ca103 ca104 ca105 ca106 ca107 ca108 ca109 ca110 ca111 ca112 ca113 ca114 ca115 ca116 ca117 ca118 ca119 ca120 ca121 ca122 ca123
    ca124 ca125 ca126 ca127 ca128 ca129 ca130 ca131 ca132 ca133 ca134 ca135 ca136 ca137 ca138 ca139 ca140 ca141 ca142 ca143 ca144 ca145 ca146 ca147 ca148 ca149 ca150 ca151 ca152 ca153
    ca154 ca155 ca156 ca157 ca158 ca159 ca160 ca161 ca162 ca163 ca164 ca165 ca166 ca167 ca168 ca169 ca170 ca171 ca172 ca173 ca174 ca175 ca176 ca177 ca178 ca179 ca180 ca181 ca182 ca183
    ca184 ca185 ca186 ca187 ca188 ca189 ca190 ca191 ca192 ca193 ca194 ca195 ca196 ca197 ca198 ca199 ca200 ca201 ca202 ca203 ca204 ca205 ca206 ca207 ca208 ca209 ca210 ca211 ca212 ca213
    ca214 ca215 ca216 ca217 ca218 ca219 ca220 ca221 ca222 ca223 ca224 ca225 ca226 ca227 ca228 ca229 ca230 ca231 ca232 ca233 ca234 ca235 ca236 ca237 ca238 ca239 ca240 ca241 ca242 ca243
    ca244 ca245 ca246 ca247 ca248 ca249 ca250 ca251 ca252 ca253 ca254 ca255 ca256 ca257 ca258 ca259 ca260 ca261 ca262 ca263 ca264 ca265 ca266 ca267 ca268 ca269 ca270 ca271 ca272 ca273
    ca274 ca275 ca276 ca277 ca278 ca279 ca280 ca281 ca282 ca283 ca284 ca285 ca286 : Value}
    (hpl3 : p.length ≤ 140737488350100) (hm : 64 * m + 64 ≤ p.length) (hst : Hid (OwnT B0 5 .u8 (.slice (some ⟨g3, 0, none⟩) p.length cap3) p w4)) (HBY : Hid (∀ j, wAt p m j < 256))
    (HW : Hid (OwnN w4.heap.size 64 .u32 (.slice (some ⟨w4.heap.size, 0, none⟩) 64 64) (arrW (wAt p m) 0) w)) (HB5 : Hid (Below w4.heap.size w4 w))
    (R : Act → World → Prop)
    (hexit : Hid (∀  (w1 : World), OwnN w4.heap.size 64 .u32 (.slice (some ⟨w4.heap.size, 0, none⟩) 64 64) (arrW (wAt p m) 16) w1 ∧ Below w4.heap.size w4 w1 → ∀ {vb10 vb11 vb60 vb61 vb62 vb63 vb64 vb65 vb66 vb67 vb68 vb69 vb70 vb71 vb72 vb73 vb74 vb75 vb76 vb77 vb78 vb79 vb80 vb81 vb82 vb83 vb84 vb85 vb86 : Value},
      R ⟨List.toArray (ca0 :: ca1 :: ca2 :: ca3 :: ca4 :: .slice (some ⟨g3, 0, none⟩) p.length cap3 :: ca6 :: ca7 :: .int .i64 ((64 * m : Nat) : Int) :: .slice (some ⟨w4.heap.size, 0, none⟩) 64 64 :: vb10 :: vb11 :: ca12 :: ca13 :: ca14 :: ca15 ::
      ca16 :: ca17 :: ca18 :: ca19 :: ca20 :: ca21 :: ca22 :: ca23 :: ca24 :: ca25 :: ca26 :: ca27 :: ca28 :: ca29 :: ca30 :: ca31 :: ca32 :: ca33 :: ca34 :: ca35 :: ca36 :: ca37 :: ca38 :: ca39 :: ca40 :: ca41 :: ca42 :: ca43 ::
      ca44 :: ca45 :: ca46 :: ca47 :: ca48 :: ca49 :: ca50 :: ca51 :: ca52 :: ca53 :: ca54 :: ca55 :: ca56 :: ca57 :: ca58 :: ca59 :: vb60 :: vb61 :: vb62 :: vb63 :: vb64 :: vb65 :: vb66 :: vb67 :: vb68 :: vb69 :: vb70 :: vb71 ::
      vb72 :: vb73 :: vb74 :: vb75 :: vb76 :: vb77 :: vb78 :: vb79 :: vb80 :: vb81 :: vb82 :: vb83 :: vb84 :: vb85 :: vb86 :: ca87 :: ca88 :: ca89 :: ca90 :: ca91 :: ca92 :: ca93 :: ca94 :: ca95 :: ca96 :: ca97 :: ca98 :: ca99 ::
      ca100 :: ca101 :: ca102 :: ca103 :: ca104 :: ca105 :: ca106 :: ca107 :: ca108 :: ca109 :: ca110 :: ca111 :: ca112 :: ca113 :: ca114 :: ca115 :: ca116 :: ca117 :: ca118 :: ca119 :: ca120 :: ca121 :: ca122 :: ca123 :: ca124 ::
      ca125 :: ca126 :: ca127 :: ca128 :: ca129 :: ca130 :: ca131 :: ca132 :: ca133 :: ca134 :: ca135 :: ca136 :: ca137 :: ca138 :: ca139 :: ca140 :: ca141 :: ca142 :: ca143 :: ca144 :: ca145 :: ca146 :: ca147 :: ca148 :: ca149 ::
      ca150 :: ca151 :: ca152 :: ca153 :: ca154 :: ca155 :: ca156 :: ca157 :: ca158 :: ca159 :: ca160 :: ca161 :: ca162 :: ca163 :: ca164 :: ca165 :: ca166 :: ca167 :: ca168 :: ca169 :: ca170 :: ca171 :: ca172 :: ca173 :: ca174 ::
      ca175 :: ca176 :: ca177 :: ca178 :: ca179 :: ca180 :: ca181 :: ca182 :: ca183 :: ca184 :: ca185 :: ca186 :: ca187 :: ca188 :: ca189 :: ca190 :: ca191 :: ca192 :: ca193 :: ca194 :: ca195 :: ca196 :: ca197 :: ca198 :: ca199 ::
      ca200 :: ca201 :: ca202 :: ca203 :: ca204 :: ca205 :: ca206 :: ca207 :: ca208 :: ca209 :: ca210 :: ca211 :: ca212 :: ca213 :: ca214 :: ca215 :: ca216 :: ca217 :: ca218 :: ca219 :: ca220 :: ca221 :: ca222 :: ca223 :: ca224 ::
      ca225 :: ca226 :: ca227 :: ca228 :: ca229 :: ca230 :: ca231 :: ca232 :: ca233 :: ca234 :: ca235 :: ca236 :: ca237 :: ca238 :: ca239 :: ca240 :: ca241 :: ca242 :: ca243 :: ca244 :: ca245 :: ca246 :: ca247 :: ca248 :: ca249 ::
      ca250 :: ca251 :: ca252 :: ca253 :: ca254 :: ca255 :: ca256 :: ca257 :: ca258 :: ca259 :: ca260 :: ca261 :: ca262 :: ca263 :: ca264 :: ca265 :: ca266 :: ca267 :: ca268 :: ca269 :: ca270 :: ca271 :: ca272 :: ca273 :: ca274 ::
      ca275 :: ca276 :: ca277 :: ca278 :: ca279 :: ca280 :: ca281 :: ca282 :: ca283 :: ca284 :: ca285 :: ca286 :: []), []⟩ w1)) :
    Code.wp Tryd.prog (Code.loop (loopAt Tryd.f33 3)) (Ends 6 R) ⟨List.toArray (ca0 :: ca1 :: ca2 :: ca3 :: ca4 :: .slice (some ⟨g3, 0, none⟩) p.length cap3 :: ca6 :: ca7 :: .int .i64 ((64 * m : Nat) : Int) :: .slice (some ⟨w4.heap.size, 0, none⟩) 64 64 :: .int .i64 0 :: ub11 :: ca12 :: ca13 :: ca14 ::
      ca15 :: ca16 :: ca17 :: ca18 :: ca19 :: ca20 :: ca21 :: ca22 :: ca23 :: ca24 :: ca25 :: ca26 :: ca27 :: ca28 :: ca29 :: ca30 :: ca31 :: ca32 :: ca33 :: ca34 :: ca35 :: ca36 :: ca37 :: ca38 :: ca39 :: ca40 :: ca41 :: ca42 ::
      ca43 :: ca44 :: ca45 :: ca46 :: ca47 :: ca48 :: ca49 :: ca50 :: ca51 :: ca52 :: ca53 :: ca54 :: ca55 :: ca56 :: ca57 :: ca58 :: ca59 :: ub60 :: ub61 :: ub62 :: ub63 :: ub64 :: ub65 :: ub66 :: ub67 :: ub68 :: ub69 :: ub70 ::
      ub71 :: ub72 :: ub73 :: ub74 :: ub75 :: ub76 :: ub77 :: ub78 :: ub79 :: ub80 :: ub81 :: ub82 :: ub83 :: ub84 :: ub85 :: ub86 :: ca87 :: ca88 :: ca89 :: ca90 :: ca91 :: ca92 :: ca93 :: ca94 :: ca95 :: ca96 :: ca97 :: ca98 ::
      ca99 :: ca100 :: ca101 :: ca102 :: ca103 :: ca104 :: ca105 :: ca106 :: ca107 :: ca108 :: ca109 :: ca110 :: ca111 :: ca112 :: ca113 :: ca114 :: ca115 :: ca116 :: ca117 :: ca118 :: ca119 :: ca120 :: ca121 :: ca122 :: ca123 ::
      ca124 :: ca125 :: ca126 :: ca127 :: ca128 :: ca129 :: ca130 :: ca131 :: ca132 :: ca133 :: ca134 :: ca135 :: ca136 :: ca137 :: ca138 :: ca139 :: ca140 :: ca141 :: ca142 :: ca143 :: ca144 :: ca145 :: ca146 :: ca147 :: ca148 ::
      ca149 :: ca150 :: ca151 :: ca152 :: ca153 :: ca154 :: ca155 :: ca156 :: ca157 :: ca158 :: ca159 :: ca160 :: ca161 :: ca162 :: ca163 :: ca164 :: ca165 :: ca166 :: ca167 :: ca168 :: ca169 :: ca170 :: ca171 :: ca172 :: ca173 ::
      ca174 :: ca175 :: ca176 :: ca177 :: ca178 :: ca179 :: ca180 :: ca181 :: ca182 :: ca183 :: ca184 :: ca185 :: ca186 :: ca187 :: ca188 :: ca189 :: ca190 :: ca191 :: ca192 :: ca193 :: ca194 :: ca195 :: ca196 :: ca197 :: ca198 ::
      ca199 :: ca200 :: ca201 :: ca202 :: ca203 :: ca204 :: ca205 :: ca206 :: ca207 :: ca208 :: ca209 :: ca210 :: ca211 :: ca212 :: ca213 :: ca214 :: ca215 :: ca216 :: ca217 :: ca218 :: ca219 :: ca220 :: ca221 :: ca222 :: ca223 ::
      ca224 :: ca225 :: ca226 :: ca227 :: ca228 :: ca229 :: ca230 :: ca231 :: ca232 :: ca233 :: ca234 :: ca235 :: ca236 :: ca237 :: ca238 :: ca239 :: ca240 :: ca241 :: ca242 :: ca243 :: ca244 :: ca245 :: ca246 :: ca247 :: ca248 ::
      ca249 :: ca250 :: ca251 :: ca252 :: ca253 :: ca254 :: ca255 :: ca256 :: ca257 :: ca258 :: ca259 :: ca260 :: ca261 :: ca262 :: ca263 :: ca264 :: ca265 :: ca266 :: ca267 :: ca268 :: ca269 :: ca270 :: ca271 :: ca272 :: ca273 ::
      ca274 :: ca275 :: ca276 :: ca277 :: ca278 :: ca279 :: ca280 :: ca281 :: ca282 :: ca283 :: ca284 :: ca285 :: ca286 :: []), []⟩ w := by
  conv => arg 2; arg 1; whnf

  go_loopw [10] (fun i wq => ∃ k : Nat, k ≤ 16 ∧ i = .int .i64 k ∧ OwnN w4.heap.size 64 .u32 (.slice (some ⟨w4.heap.size, 0, none⟩) 64 64) (arrW (wAt p m) k) wq ∧ Below w4.heap.size w4 wq) (fun i _ => 16 - (intOf i).toNat)
  case atStart => exact ⟨0, by omega, rfl, HW.out, HB5.out⟩
  case round =>
    clear HW HB5
    obtain ⟨k, hk, rfl, ho, hb⟩ := hrel
    have HW := Lib.hid ho
    have HB5 := Lib.hid hb
    clear ho hb
    by_cases hlk : k < 16
    · go_wp2_with fail
      refine wp_ends (of_loop5 hpl3 hm hst HBY hlk HW HB5 _ (Lib.hid ?_))
      rintro w1 ⟨ho, hb⟩
      intros
      clear HW HB5
      have HW := Lib.hid ho
      have HB5 := Lib.hid hb
      clear ho hb
      go_wp2_with fail
      exact ⟨⟨k + 1, by omega, by go_num, HW.out, HB5.out⟩, by simp [intOf]; omega⟩
    · obtain rfl : k = 16 := by omega
      rw [show ((16 : Nat) : Int) = 16 from rfl]
      go_wp2_with fail
      exact ends_exit (hexit.out _ ⟨HW.out, HB5.out⟩)
end Go.Proofs.YthgfpojfnhkckaaDoor
