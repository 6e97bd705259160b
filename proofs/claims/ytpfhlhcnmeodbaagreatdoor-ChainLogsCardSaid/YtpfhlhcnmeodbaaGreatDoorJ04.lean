/-
  Joined: The document's Of: the loops that read a block's words.; The document's Of: the loop that makes the other words.; The document's Of: a block's rounds.; The document's Of: the sums behind a block; the digest's bytes.; The document's Of: block after block.; The document's Of, whole: its answer is the digest as plain mathematics says it.
-/
import Derived.Great.BuildSlice
import Derived.Laws.CopyOwn
import Derived.Laws.Rows
import Derived.Test.YtpfhlhcnmeodbaaGreatDoorJ02
import Derived.Test.YtpfhlhcnmeodbaaGreatDoorJ03
namespace Go.Proofs.YtpfhlhcnmeodbaaGreatDoor
open Go.RowKit
set_option maxHeartbeats 4000000 in
set_option maxRecDepth 100000 in
theorem of_loop5 {B0 k : Nat} {p : List Nat} {g3 cap3 m : Nat} {w4 w : World}
    {ca0 ca1 ca2 ca3 ca4 ca6 ca7 ca12 ca13 ca14 ca15 ca16 ca17 ca18 ca19 ca20 ca21 ca22 ca23 ca24 ca25 ca26 ca27 ca28 ca29 ca30 ca31 ca32 ca33 ca34
    ca35 ca36 ca37 ca38 ca39 ca40 ca41 ca42 ca43 ca44 ca45 ca46 ca47 ca48 ca49 ca50 ca51 ca52 ca53 ca54 ca55 ca56 ca57 ca58 ca59 ca60 ca61 ca62 ca63 ub64
    ub65 ub66 ub67 ub68 ub69 ub70 ub71 ub72 ub73 ub74 ub75 ub76 ub77 ub78 ub79 ub80 ub81 ub82 ub83 ub84 ub85 ub86 ca87 ca88 ca89 ca90 ca91 ca92 ca93 ca94
    ca95 ca96 ca97 ca98 ca99 ca100 ca101 ca102 ca103 ca104 ca105 ca106 ca107 ca108 ca109 ca110 ca111 ca112 ca113 ca114 ca115 ca116 ca117 ca118 ca119 ca120 ca121 ca122 ca123 ca124
    ca125 ca126 ca127 ca128 ca129 ca130 ca131 ca132 ca133 ca134 ca135 ca136 ca137 ca138 ca139 ca140 ca141 ca142 ca143 ca144 ca145 ca146 ca147 ca148 ca149 ca150 ca151 ca152 ca153 ca154
    ca155 ca156 ca157 ca158 ca159 ca160 ca161 ca162 ca163 ca164 ca165 ca166 ca167 ca168 ca169 ca170 ca171 ca172 ca173 ca174 ca175 ca176 ca177 ca178 ca179 ca180 ca181 ca182 ca183 ca184
    ca185 ca186 ca187 ca188 ca189 ca190 ca191 ca192 ca193 ca194 ca195 ca196 ca197 ca198 ca199 ca200 ca201 ca202 ca203 ca204 ca205 ca206 ca207 ca208 ca209 ca210 ca211 ca212 ca213 ca214
    ca215 ca216 ca217 ca218 ca219 ca220 ca221 ca222 ca223 ca224 ca225 ca226 ca227 ca228 ca229 ca230 ca231 ca232 ca233 ca234 ca235 ca236 ca237 ca238 ca239 ca240 ca241 ca242 ca243 ca244
    ca245 ca246 ca247 ca248 ca249 ca250 ca251 ca252 ca253 ca254 ca255 ca256 ca257 ca258 ca259 ca260 ca261 ca262 ca263 ca264 ca265 ca266 ca267 ca268 ca269 ca270 ca271 ca272 ca273 ca274
    ca275 ca276 ca277 ca278 ca279 ca280 ca281 ca282 ca283 ca284 ca285 ca286 : Value}
    (hpl3 : p.length ≤ 140737488350100) (hm : 64 * m + 64 ≤ p.length) (hst : Hid (OwnT B0 5 .u8 (.slice (some ⟨g3, 0, none⟩) p.length cap3) p w4)) (HBY : Hid (∀ j, wAt p m j < 256)) (hlk : k < 16)
    (HW : Hid (OwnN w4.heap.size 143 .u32 (.slice (some ⟨w4.heap.size, 0, none⟩) 64 64) (arrW (wAt p m) k) w)) (HB5 : Hid (Below w4.heap.size w4 w))
    (R : Act → World → Prop)
    (hexit : Hid (∀  (w1 : World), OwnN w4.heap.size 143 .u32 (.slice (some ⟨w4.heap.size, 0, none⟩) 64 64) (arrW (wAt p m) (k + 1)) w1 ∧ Below w4.heap.size w4 w1 → ∀ {vb11 vb64 vb65 vb66 vb67 vb68 vb69 vb70 vb71 vb72 vb73 vb74 vb75 vb76 vb77 vb78 vb79 vb80 vb81 vb82 vb83 vb84 vb85 vb86 : Value},
      R ⟨List.toArray (ca0 :: ca1 :: ca2 :: ca3 :: ca4 :: .slice (some ⟨g3, 0, none⟩) p.length cap3 :: ca6 :: ca7 :: .int .i64 ((64 * m : Nat) : Int) :: .slice (some ⟨w4.heap.size, 0, none⟩) 64 64 :: .int .i64 (k : Int) :: vb11 :: ca12 :: ca13 ::
      ca14 :: ca15 :: ca16 :: ca17 :: ca18 :: ca19 :: ca20 :: ca21 :: ca22 :: ca23 :: ca24 :: ca25 :: ca26 :: ca27 :: ca28 :: ca29 :: ca30 :: ca31 :: ca32 :: ca33 :: ca34 :: ca35 :: ca36 :: ca37 :: ca38 :: ca39 :: ca40 :: ca41 ::
      ca42 :: ca43 :: ca44 :: ca45 :: ca46 :: ca47 :: ca48 :: ca49 :: ca50 :: ca51 :: ca52 :: ca53 :: ca54 :: ca55 :: ca56 :: ca57 :: ca58 :: ca59 :: ca60 :: ca61 :: ca62 :: ca63 :: vb64 :: vb65 :: vb66 :: vb67 :: vb68 :: vb69 ::
      vb70 :: vb71 :: vb72 :: vb73 :: vb74 :: vb75 :: vb76 :: vb77 :: vb78 :: vb79 :: vb80 :: vb81 :: vb82 :: vb83 :: vb84 :: vb85 :: vb86 :: ca87 :: ca88 :: ca89 :: ca90 :: ca91 :: ca92 :: ca93 :: ca94 :: ca95 :: ca96 :: ca97 ::
      ca98 :: ca99 :: ca100 :: ca101 :: ca102 :: ca103 :: ca104 :: ca105 :: ca106 :: ca107 :: ca108 :: ca109 :: ca110 :: ca111 :: ca112 :: ca113 :: ca114 :: ca115 :: ca116 :: ca117 :: ca118 :: ca119 :: ca120 :: ca121 :: ca122 ::
      ca123 :: ca124 :: ca125 :: ca126 :: ca127 :: ca128 :: ca129 :: ca130 :: ca131 :: ca132 :: ca133 :: ca134 :: ca135 :: ca136 :: ca137 :: ca138 :: ca139 :: ca140 :: ca141 :: ca142 :: ca143 :: ca144 :: ca145 :: ca146 :: ca147 ::
      ca148 :: ca149 :: ca150 :: ca151 :: ca152 :: ca153 :: ca154 :: ca155 :: ca156 :: ca157 :: ca158 :: ca159 :: ca160 :: ca161 :: ca162 :: ca163 :: ca164 :: ca165 :: ca166 :: ca167 :: ca168 :: ca169 :: ca170 :: ca171 :: ca172 ::
      ca173 :: ca174 :: ca175 :: ca176 :: ca177 :: ca178 :: ca179 :: ca180 :: ca181 :: ca182 :: ca183 :: ca184 :: ca185 :: ca186 :: ca187 :: ca188 :: ca189 :: ca190 :: ca191 :: ca192 :: ca193 :: ca194 :: ca195 :: ca196 :: ca197 ::
      ca198 :: ca199 :: ca200 :: ca201 :: ca202 :: ca203 :: ca204 :: ca205 :: ca206 :: ca207 :: ca208 :: ca209 :: ca210 :: ca211 :: ca212 :: ca213 :: ca214 :: ca215 :: ca216 :: ca217 :: ca218 :: ca219 :: ca220 :: ca221 :: ca222 ::
      ca223 :: ca224 :: ca225 :: ca226 :: ca227 :: ca228 :: ca229 :: ca230 :: ca231 :: ca232 :: ca233 :: ca234 :: ca235 :: ca236 :: ca237 :: ca238 :: ca239 :: ca240 :: ca241 :: ca242 :: ca243 :: ca244 :: ca245 :: ca246 :: ca247 ::
      ca248 :: ca249 :: ca250 :: ca251 :: ca252 :: ca253 :: ca254 :: ca255 :: ca256 :: ca257 :: ca258 :: ca259 :: ca260 :: ca261 :: ca262 :: ca263 :: ca264 :: ca265 :: ca266 :: ca267 :: ca268 :: ca269 :: ca270 :: ca271 :: ca272 ::
      ca273 :: ca274 :: ca275 :: ca276 :: ca277 :: ca278 :: ca279 :: ca280 :: ca281 :: ca282 :: ca283 :: ca284 :: ca285 :: ca286 :: []), []⟩ w1)) :
    Code.wp Tryz.prog (Code.loop (loopAt Tryz.f72 4)) (Ends 8 R) ⟨List.toArray (ca0 :: ca1 :: ca2 :: ca3 :: ca4 :: .slice (some ⟨g3, 0, none⟩) p.length cap3 :: ca6 :: ca7 :: .int .i64 ((64 * m : Nat) : Int) :: .slice (some ⟨w4.heap.size, 0, none⟩) 64 64 :: .int .i64 (k : Int) :: .int .i64 0 :: ca12 ::
      ca13 :: ca14 :: ca15 :: ca16 :: ca17 :: ca18 :: ca19 :: ca20 :: ca21 :: ca22 :: ca23 :: ca24 :: ca25 :: ca26 :: ca27 :: ca28 :: ca29 :: ca30 :: ca31 :: ca32 :: ca33 :: ca34 :: ca35 :: ca36 :: ca37 :: ca38 :: ca39 :: ca40 ::
      ca41 :: ca42 :: ca43 :: ca44 :: ca45 :: ca46 :: ca47 :: ca48 :: ca49 :: ca50 :: ca51 :: ca52 :: ca53 :: ca54 :: ca55 :: ca56 :: ca57 :: ca58 :: ca59 :: ca60 :: ca61 :: ca62 :: ca63 :: ub64 :: ub65 :: ub66 :: ub67 :: ub68 ::
      ub69 :: ub70 :: ub71 :: ub72 :: ub73 :: ub74 :: ub75 :: ub76 :: ub77 :: ub78 :: ub79 :: ub80 :: ub81 :: ub82 :: ub83 :: ub84 :: ub85 :: ub86 :: ca87 :: ca88 :: ca89 :: ca90 :: ca91 :: ca92 :: ca93 :: ca94 :: ca95 :: ca96 ::
      ca97 :: ca98 :: ca99 :: ca100 :: ca101 :: ca102 :: ca103 :: ca104 :: ca105 :: ca106 :: ca107 :: ca108 :: ca109 :: ca110 :: ca111 :: ca112 :: ca113 :: ca114 :: ca115 :: ca116 :: ca117 :: ca118 :: ca119 :: ca120 :: ca121 ::
      ca122 :: ca123 :: ca124 :: ca125 :: ca126 :: ca127 :: ca128 :: ca129 :: ca130 :: ca131 :: ca132 :: ca133 :: ca134 :: ca135 :: ca136 :: ca137 :: ca138 :: ca139 :: ca140 :: ca141 :: ca142 :: ca143 :: ca144 :: ca145 :: ca146 ::
      ca147 :: ca148 :: ca149 :: ca150 :: ca151 :: ca152 :: ca153 :: ca154 :: ca155 :: ca156 :: ca157 :: ca158 :: ca159 :: ca160 :: ca161 :: ca162 :: ca163 :: ca164 :: ca165 :: ca166 :: ca167 :: ca168 :: ca169 :: ca170 :: ca171 ::
      ca172 :: ca173 :: ca174 :: ca175 :: ca176 :: ca177 :: ca178 :: ca179 :: ca180 :: ca181 :: ca182 :: ca183 :: ca184 :: ca185 :: ca186 :: ca187 :: ca188 :: ca189 :: ca190 :: ca191 :: ca192 :: ca193 :: ca194 :: ca195 :: ca196 ::
      ca197 :: ca198 :: ca199 :: ca200 :: ca201 :: ca202 :: ca203 :: ca204 :: ca205 :: ca206 :: ca207 :: ca208 :: ca209 :: ca210 :: ca211 :: ca212 :: ca213 :: ca214 :: ca215 :: ca216 :: ca217 :: ca218 :: ca219 :: ca220 :: ca221 ::
      ca222 :: ca223 :: ca224 :: ca225 :: ca226 :: ca227 :: ca228 :: ca229 :: ca230 :: ca231 :: ca232 :: ca233 :: ca234 :: ca235 :: ca236 :: ca237 :: ca238 :: ca239 :: ca240 :: ca241 :: ca242 :: ca243 :: ca244 :: ca245 :: ca246 ::
      ca247 :: ca248 :: ca249 :: ca250 :: ca251 :: ca252 :: ca253 :: ca254 :: ca255 :: ca256 :: ca257 :: ca258 :: ca259 :: ca260 :: ca261 :: ca262 :: ca263 :: ca264 :: ca265 :: ca266 :: ca267 :: ca268 :: ca269 :: ca270 :: ca271 ::
      ca272 :: ca273 :: ca274 :: ca275 :: ca276 :: ca277 :: ca278 :: ca279 :: ca280 :: ca281 :: ca282 :: ca283 :: ca284 :: ca285 :: ca286 :: []), []⟩ w := by
  conv => arg 2; arg 1; whnf
  go_loopw [11] (fun q wq => ∃ r : Nat, r ≤ 4 ∧ q = .int .i64 r ∧ OwnN w4.heap.size 143 .u32 (.slice (some ⟨w4.heap.size, 0, none⟩) 64 64) ((arrW (wAt p m) k).set k (accN (wAt p m) k r)) wq ∧ Below w4.heap.size w4 wq) (fun q _ => 4 - (intOf q).toNat)
  case atStart => exact ⟨0, by omega, rfl, by rw [show accN (wAt p m) k 0 = 0 from rfl, arrW_at (by omega)]; exact HW.out, HB5.out⟩
  case round =>
    clear HW HB5
    obtain ⟨r, hr, rfl, ho, hb⟩ := hrel
    have HW := Lib.hid ho
    have HB5 := Lib.hid hb
    clear ho hb
    by_cases hlr : r < 4
    · have hil : 64 * m + (4 * k + r) < p.length := by omega
      have hlen : ((arrW (wAt p m) k).set k (accN (wAt p m) k r)).length = 64 := by rw [List.length_set, arrW_len _ (by omega)]
      have hc1 : wr.cell? ⟨w4.heap.size, k, none⟩ = some (.int .u32 (accN (wAt p m) k r : Int)) := by
        have h := HW.out
        rw [← hlen] at h
        exact h.cellAt k _ (List.getElem?_set_self (by rw [arrW_len _ (by omega)]; omega))
      have hf1 : wr.frozen? ⟨w4.heap.size, k, none⟩ = false := HW.out.frozenAt hlen.symm k
      have hc2 : wr.cell? ⟨g3, 64 * m + 4 * k + r, none⟩ = some (.int .u8 (wAt p m (4 * k + r) : Int)) := by
        have h := (hst.out.below HB5.out).cells (g := g3) rfl _ hil
        rw [Nat.add_assoc, h]
        unfold wAt
        rw [List.getD_eq_getElem?_getD, List.getElem?_eq_getElem hil]
        rfl
      have hac := accN_lt HBY.out k r (by omega)
      have hby := HBY.out (4 * k + r)
      have HAC := Lib.hid (show accN (wAt p m) k (r + 1) = 256 * accN (wAt p m) k r + wAt p m (4 * k + r) from rfl)
      have HST5 := Lib.hid (HW.out.stored hlen.symm k (256 * accN (wAt p m) k r + wAt p m (4 * k + r)))
      clear hlen
      have b1 : (k : Int) < 64 := by omega
      have b2 : 64 * (m : Int) + 4 * (k : Int) + (r : Int) < (p.length : Int) := by omega
      have b3 : 0 ≤ 64 * (m : Int) + 4 * (k : Int) + (r : Int) := by omega
      have e1 : IntKind.i64.wrap (4 * (k : Int)) = 4 * (k : Int) := by rw [IntKind.wrap_i64]; omega
      have e2 : IntKind.i64.wrap (64 * (m : Int) + 4 * (k : Int)) = 64 * (m : Int) + 4 * (k : Int) := by rw [IntKind.wrap_i64]; omega
      have e3 : IntKind.i64.wrap (64 * (m : Int) + 4 * (k : Int) + (r : Int)) = 64 * (m : Int) + 4 * (k : Int) + (r : Int) := by rw [IntKind.wrap_i64]; omega
      have e4 : (64 * (m : Int) + 4 * (k : Int) + (r : Int)).toNat = 64 * m + 4 * k + r := by omega
      generalize accN (wAt p m) k r = acc at hc1 hac HAC HST5
      generalize wAt p m (4 * k + r) = by' at hc2 hby HAC HST5
      have e5 : IntKind.u32.wrap (256 * (acc : Int)) = 256 * (acc : Int) := by rw [IntKind.wrap_u32]; omega
      have e6 : IntKind.u32.wrap (by' : Int) = (by' : Int) := by rw [IntKind.wrap_u32]; omega
      have e7 : IntKind.u32.wrap (256 * (acc : Int) + (by' : Int)) = 256 * (acc : Int) + (by' : Int) := by rw [IntKind.wrap_u32]; omega
      go_wp2_with fail
      go_region
      clear e1 e2 e3 e4 e5 e6 e7 b2 b3
      go_wp2_with fail
      have hv : ((256 * acc + by' : Nat) : Int) = 256 * (acc : Int) + (by' : Int) := by omega
      exact ⟨⟨r + 1, by omega, by go_num, by
        have h := HST5.out
        rw [List.set_set, hv] at h
        rw [HAC.out]
        exact h, drawn_below (below_set HB5.out (Nat.le_refl _) _ _) 1⟩, by simp [intOf]; omega⟩
    · obtain rfl : r = 4 := by omega
      rw [accN_word, arrW_word hlk] at HW
      go_wp2_with fail
      exact ends_exit (hexit.out _ ⟨HW.out, HB5.out⟩)
set_option maxHeartbeats 4000000 in
set_option maxRecDepth 100000 in
theorem of_loop4 {B0 : Nat} {p : List Nat} {g3 cap3 m : Nat} {w4 w : World}
    {ca0 ca1 ca2 ca3 ca4 ca6 ca7 ub11 ca12 ca13 ca14 ca15 ca16 ca17 ca18 ca19 ca20 ca21 ca22 ca23 ca24 ca25 ca26 ca27 ca28 ca29 ca30 ca31 ca32 ca33
    ca34 ca35 ca36 ca37 ca38 ca39 ca40 ca41 ca42 ca43 ca44 ca45 ca46 ca47 ca48 ca49 ca50 ca51 ca52 ca53 ca54 ca55 ca56 ca57 ca58 ca59 ub60 ub61 ub62 ub63
    ub64 ub65 ub66 ub67 ub68 ub69 ub70 ub71 ub72 ub73 ub74 ub75 ub76 ub77 ub78 ub79 ub80 ub81 ub82 ub83 ub84 ub85 ub86 ca87 ca88 ca89 ca90 ca91 ca92 ca93
    ca94 ca95 ca96 ca97 ca98 ca99 ca100 ca101 ca102 ca103 ca104 ca105 ca106 ca107 ca108 ca109 ca110 ca111 ca112 ca113 ca114 ca115 ca116 ca117 ca118 ca119 ca120 ca121 ca122 ca123
    ca124 ca125 ca126 ca127 ca128 ca129 ca130 ca131 ca132 ca133 ca134 ca135 ca136 ca137 ca138 ca139 ca140 ca141 ca142 ca143 ca144 ca145 ca146 ca147 ca148 ca149 ca150 ca151 ca152 ca153
    ca154 ca155 ca156 ca157 ca158 ca159 ca160 ca161 ca162 ca163 ca164 ca165 ca166 ca167 ca168 ca169 ca170 ca171 ca172 ca173 ca174 ca175 ca176 ca177 ca178 ca179 ca180 ca181 ca182 ca183
    ca184 ca185 ca186 ca187 ca188 ca189 ca190 ca191 ca192 ca193 ca194 ca195 ca196 ca197 ca198 ca199 ca200 ca201 ca202 ca203 ca204 ca205 ca206 ca207 ca208 ca209 ca210 ca211 ca212 ca213
    ca214 ca215 ca216 ca217 ca218 ca219 ca220 ca221 ca222 ca223 ca224 ca225 ca226 ca227 ca228 ca229 ca230 ca231 ca232 ca233 ca234 ca235 ca236 ca237 ca238 ca239 ca240 ca241 ca242 ca243
    ca244 ca245 ca246 ca247 ca248 ca249 ca250 ca251 ca252 ca253 ca254 ca255 ca256 ca257 ca258 ca259 ca260 ca261 ca262 ca263 ca264 ca265 ca266 ca267 ca268 ca269 ca270 ca271 ca272 ca273
    ca274 ca275 ca276 ca277 ca278 ca279 ca280 ca281 ca282 ca283 ca284 ca285 ca286 : Value}
    (hpl3 : p.length ≤ 140737488350100) (hm : 64 * m + 64 ≤ p.length) (hst : Hid (OwnT B0 5 .u8 (.slice (some ⟨g3, 0, none⟩) p.length cap3) p w4)) (HBY : Hid (∀ j, wAt p m j < 256))
    (HW : Hid (OwnN w4.heap.size 143 .u32 (.slice (some ⟨w4.heap.size, 0, none⟩) 64 64) (arrW (wAt p m) 0) w)) (HB5 : Hid (Below w4.heap.size w4 w))
    (R : Act → World → Prop)
    (hexit : Hid (∀  (w1 : World), OwnN w4.heap.size 143 .u32 (.slice (some ⟨w4.heap.size, 0, none⟩) 64 64) (arrW (wAt p m) 16) w1 ∧ Below w4.heap.size w4 w1 → ∀ {vb10 vb11 vb60 vb61 vb62 vb63 vb64 vb65 vb66 vb67 vb68 vb69 vb70 vb71 vb72 vb73 vb74 vb75 vb76 vb77 vb78 vb79 vb80 vb81 vb82 vb83 vb84 vb85 vb86 : Value},
      R ⟨List.toArray (ca0 :: ca1 :: ca2 :: ca3 :: ca4 :: .slice (some ⟨g3, 0, none⟩) p.length cap3 :: ca6 :: ca7 :: .int .i64 ((64 * m : Nat) : Int) :: .slice (some ⟨w4.heap.size, 0, none⟩) 64 64 :: vb10 :: vb11 :: ca12 :: ca13 :: ca14 :: ca15 ::
      ca16 :: ca17 :: ca18 :: ca19 :: ca20 :: ca21 :: ca22 :: ca23 :: ca24 :: ca25 :: ca26 :: ca27 :: ca28 :: ca29 :: ca30 :: ca31 :: ca32 :: ca33 :: ca34 :: ca35 :: ca36 :: ca37 :: ca38 :: ca39 :: ca40 :: ca41 :: ca42 :: ca43 ::
      ca44 :: ca45 :: ca46 :: ca47 :: ca48 :: ca49 :: ca50 :: ca51 :: ca52 :: ca53 :: ca54 :: ca55 :: ca56 :: ca57 :: ca58 :: ca59 :: vb60 :: vb61 :: vb62 :: vb63 :: vb64 :: vb65 :: vb66 :: vb67 :: vb68 :: vb69 :: vb70 :: vb71 ::
      vb72 :: vb73 :: vb74 :: vb75 :: vb76 :: vb77 :: vb78 :: vb79 :: vb80 :: vb81 :: vb82 :: vb83 :: vb84 :: vb85 :: vb86 :: ca87 :: ca88 :: ca89 :: ca90 :: ca91 :: ca92 :: ca93 :: ca94 :: ca95 :: ca96 :: ca97 :: ca98 :: ca99 ::
      ca100 :: ca101 :: ca102 :: ca103 :: ca104 :: ca105 :: ca106 :: ca107 :: ca108 :: ca109 :: ca110 :: ca111 :: ca112 :: ca113 :: ca114 :: ca115 :: ca116 :: ca117 :: ca118 :: ca119 :: ca120 :: ca121 :: ca122 :: ca123 :: ca124 ::
      ca125 :: ca126 :: ca127 :: ca128 :: ca129 :: ca130 :: ca131 :: ca132 :: ca133 :: ca134 :: ca135 :: ca136 :: ca137 :: ca138 :: ca139 :: ca140 :: ca141 :: ca142 :: ca143 :: ca144 :: ca145 :: ca146 :: ca147 :: ca148 :: ca149 ::
      ca150 :: ca151 :: ca152 :: ca153 :: ca154 :: ca155 :: ca156 :: ca157 :: ca158 :: ca159 :: ca160 :: ca161 :: ca162 :: ca163 :: ca164 :: ca165 :: ca166 :: ca167 :: ca168 :: ca169 :: ca170 :: ca171 :: ca172 :: ca173 :: ca174 ::
      ca175 :: ca176 :: ca177 :: ca178 :: ca179 :: ca180 :: ca181 :: ca182 :: ca183 :: ca184 :: ca185 :: ca186 :: ca187 :: ca188 :: ca189 :: ca190 :: ca191 :: ca192 :: ca193 :: ca194 :: ca195 :: ca196 :: ca197 :: ca198 :: ca199 ::
      ca200 :: ca201 :: ca202 :: ca203 :: ca204 :: ca205 :: ca206 :: ca207 :: ca208 :: ca209 :: ca210 :: ca211 :: ca212 :: ca213 :: ca214 :: ca215 :: ca216 :: ca217 :: ca218 :: ca219 :: ca220 :: ca221 :: ca222 :: ca223 :: ca224 ::
      ca225 :: ca226 :: ca227 :: ca228 :: ca229 :: ca230 :: ca231 :: ca232 :: ca233 :: ca234 :: ca235 :: ca236 :: ca237 :: ca238 :: ca239 :: ca240 :: ca241 :: ca242 :: ca243 :: ca244 :: ca245 :: ca246 :: ca247 :: ca248 :: ca249 ::
      ca250 :: ca251 :: ca252 :: ca253 :: ca254 :: ca255 :: ca256 :: ca257 :: ca258 :: ca259 :: ca260 :: ca261 :: ca262 :: ca263 :: ca264 :: ca265 :: ca266 :: ca267 :: ca268 :: ca269 :: ca270 :: ca271 :: ca272 :: ca273 :: ca274 ::
      ca275 :: ca276 :: ca277 :: ca278 :: ca279 :: ca280 :: ca281 :: ca282 :: ca283 :: ca284 :: ca285 :: ca286 :: []), []⟩ w1)) :
    Code.wp Tryz.prog (Code.loop (loopAt Tryz.f72 3)) (Ends 6 R) ⟨List.toArray (ca0 :: ca1 :: ca2 :: ca3 :: ca4 :: .slice (some ⟨g3, 0, none⟩) p.length cap3 :: ca6 :: ca7 :: .int .i64 ((64 * m : Nat) : Int) :: .slice (some ⟨w4.heap.size, 0, none⟩) 64 64 :: .int .i64 0 :: ub11 :: ca12 :: ca13 :: ca14 ::
      ca15 :: ca16 :: ca17 :: ca18 :: ca19 :: ca20 :: ca21 :: ca22 :: ca23 :: ca24 :: ca25 :: ca26 :: ca27 :: ca28 :: ca29 :: ca30 :: ca31 :: ca32 :: ca33 :: ca34 :: ca35 :: ca36 :: ca37 :: ca38 :: ca39 :: ca40 :: ca41 :: ca42 ::
      ca43 :: ca44 :: ca45 :: ca46 :: ca47 :: ca48 :: ca49 :: ca50 :: ca51 :: ca52 :: ca53 :: ca54 :: ca55 :: ca56 :: ca57 :: ca58 :: ca59 :: ub60 :: ub61 :: ub62 :: ub63 :: ub64 :: ub65 :: ub66 :: ub67 :: ub68 :: ub69 :: ub70 ::
      ub71 :: ub72 :: ub73 :: ub74 :: ub75 :: ub76 :: ub77 :: ub78 :: ub79 :: ub80 :: ub81 :: ub82 :: ub83 :: ub84 :: ub85 :: ub86 :: ca87 :: ca88 :: ca89 :: ca90 :: ca91 :: ca92 :: ca93 :: ca94 :: ca95 :: ca96 :: ca97 :: ca98 ::
      ca99 :: ca100 :: ca101 :: ca102 :: ca103 :: ca104 :: ca105 :: ca106 :: ca107 :: ca108 :: ca109 :: ca110 :: ca111 :: ca112 :: ca113 :: ca114 :: ca115 :: ca116 :: ca117 :: ca118 :: ca119 :: ca120 :: ca121 :: ca122 :: ca123 ::
      ca124 :: ca125 :: ca126 :: ca127 :: ca128 :: ca129 :: ca130 :: ca131 :: ca132 :: ca133 :: ca134 :: ca135 :: ca136 :: ca137 :: ca138 :: ca139 :: ca140 :: ca141 :: ca142 :: ca143 :: ca144 :: ca145 :: ca146 :: ca147 :: ca148 ::
      ca149 :: ca150 :: ca151 :: ca152 :: ca153 :: ca154 :: ca155 :: ca156 :: ca157 :: ca158 :: ca159 :: ca160 :: ca161 :: ca162 :: ca163 :: ca164 :: ca165 :: ca166 :: ca167 :: ca168 :: ca169 :: ca170 :: ca171 :: ca172 :: ca173 ::
      ca174 :: ca175 :: ca176 :: ca177 :: ca178 :: ca179 :: ca180 :: ca181 :: ca182 :: ca183 :: ca184 :: ca185 :: ca186 :: ca187 :: ca188 :: ca189 :: ca190 :: ca191 :: ca192 :: ca193 :: ca194 :: ca195 :: ca196 :: ca197 :: ca198 ::
      ca199 :: ca200 :: ca201 :: ca202 :: ca203 :: ca204 :: ca205 :: ca206 :: ca207 :: ca208 :: ca209 :: ca210 :: ca211 :: ca212 :: ca213 :: ca214 :: ca215 :: ca216 :: ca217 :: ca218 :: ca219 :: ca220 :: ca221 :: ca222 :: ca223 ::
      ca224 :: ca225 :: ca226 :: ca227 :: ca228 :: ca229 :: ca230 :: ca231 :: ca232 :: ca233 :: ca234 :: ca235 :: ca236 :: ca237 :: ca238 :: ca239 :: ca240 :: ca241 :: ca242 :: ca243 :: ca244 :: ca245 :: ca246 :: ca247 :: ca248 ::
      ca249 :: ca250 :: ca251 :: ca252 :: ca253 :: ca254 :: ca255 :: ca256 :: ca257 :: ca258 :: ca259 :: ca260 :: ca261 :: ca262 :: ca263 :: ca264 :: ca265 :: ca266 :: ca267 :: ca268 :: ca269 :: ca270 :: ca271 :: ca272 :: ca273 ::
      ca274 :: ca275 :: ca276 :: ca277 :: ca278 :: ca279 :: ca280 :: ca281 :: ca282 :: ca283 :: ca284 :: ca285 :: ca286 :: []), []⟩ w := by
  conv => arg 2; arg 1; whnf
  go_loopw [10] (fun i wq => ∃ k : Nat, k ≤ 16 ∧ i = .int .i64 k ∧ OwnN w4.heap.size 143 .u32 (.slice (some ⟨w4.heap.size, 0, none⟩) 64 64) (arrW (wAt p m) k) wq ∧ Below w4.heap.size w4 wq) (fun i _ => 16 - (intOf i).toNat)
  case atStart => exact ⟨0, by omega, rfl, HW.out, HB5.out⟩
  case round =>
    clear HW HB5
    obtain ⟨k, hk, rfl, ho, hb⟩ := hrel
    have HW := Lib.hid ho
    have HB5 := Lib.hid hb
    clear ho hb
    by_cases hlk : k < 16
    · go_wp2_with fail
      refine wp_ends (of_loop5 hpl3 hm hst HBY hlk HW HB5 _ (Lib.hid ?_))
      rintro w1 ⟨ho, hb⟩
      intros
      clear HW HB5
      have HW := Lib.hid ho
      have HB5 := Lib.hid hb
      clear ho hb
      go_wp2_with fail
      exact ⟨⟨k + 1, by omega, by go_num, HW.out, HB5.out⟩, by simp [intOf]; omega⟩
    · obtain rfl : k = 16 := by omega
      rw [show ((16 : Nat) : Int) = 16 from rfl]
      go_wp2_with fail
      exact ends_exit (hexit.out _ ⟨HW.out, HB5.out⟩)
end Go.Proofs.YtpfhlhcnmeodbaaGreatDoor
namespace Go.Proofs.YtpfhlhcnmeodbaaGreatDoor
open Go.RowKit
set_option maxHeartbeats 4000000 in
set_option maxRecDepth 100000 in
theorem of_loop6 {p : List Nat} {m : Nat} {w4 w : World}
    {ca0 ca1 ca2 ca3 ca4 ca5 ca6 ca7 ca8 ca10 ca11 ub13 ub14 ca15 ca16 ca17 ca18 ca19 ca20 ca21 ca22 ca23 ca24 ca25 ca26 ca27 ca28 ca29 ca30 ca31
    ca32 ca33 ca34 ca35 ca36 ca37 ca38 ca39 ca40 ca41 ca42 ca43 ca44 ca45 ca46 ca47 ca48 ca49 ca50 ca51 ca52 ca53 ca54 ca55 ca56 ca57 ca58 ca59 ca60 ca61
    ca62 ca63 ca64 ca65 ca66 ca67 ca68 ca69 ca70 ca71 ca72 ca73 ca74 ca75 ca76 ca77 ca78 ca79 ca80 ca81 ca82 ca83 ca84 ca85 ca86 ub87 ub88 ub89 ub90 ub91
    ub92 ub93 ub94 ub95 ub96 ub97 ub98 ub99 ub100 ub101 ub102 ub103 ub104 ub105 ub106 ub107 ub108 ub109 ub110 ub111 ub112 ub113 ub114 ub115 ub116 ub117 ub118 ub119 ub120 ub121
    ub122 ub123 ub124 ub125 ub126 ub127 ub128 ub129 ub130 ub131 ub132 ca133 ca134 ca135 ca136 ca137 ca138 ca139 ca140 ca141 ca142 ca143 ca144 ca145 ca146 ca147 ca148 ca149 ca150 ca151
    ca152 ca153 ca154 ca155 ca156 ca157 ca158 ca159 ca160 ca161 ca162 ca163 ca164 ca165 ca166 ca167 ca168 ca169 ca170 ca171 ca172 ca173 ca174 ca175 ca176 ca177 ca178 ca179 ca180 ca181
    ca182 ca183 ca184 ca185 ca186 ca187 ca188 ca189 ca190 ca191 ca192 ca193 ca194 ca195 ca196 ca197 ca198 ca199 ca200 ca201 ca202 ca203 ca204 ca205 ca206 ca207 ca208 ca209 ca210 ca211
    ca212 ca213 ca214 ca215 ca216 ca217 ca218 ca219 ca220 ca221 ca222 ca223 ca224 ca225 ca226 ca227 ca228 ca229 ca230 ca231 ca232 ca233 ca234 ca235 ca236 ca237 ca238 ca239 ca240 ca241
    ca242 ca243 ca244 ca245 ca246 ca247 ca248 ca249 ca250 ca251 ca252 ca253 ca254 ca255 ca256 ca257 ca258 ca259 ca260 ca261 ca262 ca263 ca264 ca265 ca266 ca267 ca268 ca269 ca270 ca271
    ca272 ca273 ca274 ca275 ca276 ca277 ca278 ca279 ca280 ca281 ca282 ca283 ca284 ca285 ca286 : Value}
    (HBY : Hid (∀ j, wAt p m j < 256))
    (HW : Hid (OwnN w4.heap.size 143 .u32 (.slice (some ⟨w4.heap.size, 0, none⟩) 64 64) (arrW (wAt p m) 16) w)) (HB5 : Hid (Below w4.heap.size w4 w))
    (R : Act → World → Prop)
    (hexit : Hid (∀  (w1 : World), OwnN w4.heap.size 143 .u32 (.slice (some ⟨w4.heap.size, 0, none⟩) 64 64) (wl (wAt p m) 64) w1 ∧ Below w4.heap.size w4 w1 → ∀ {vb12 vb13 vb14 vb87 vb88 vb89 vb90 vb91 vb92 vb93 vb94 vb95 vb96 vb97 vb98 vb99 vb100 vb101 vb102 vb103 vb104 vb105 vb106 vb107 vb108 vb109 vb110 vb111 vb112 vb113
    vb114 vb115 vb116 vb117 vb118 vb119 vb120 vb121 vb122 vb123 vb124 vb125 vb126 vb127 vb128 vb129 vb130 vb131 vb132 : Value},
      R ⟨List.toArray (ca0 :: ca1 :: ca2 :: ca3 :: ca4 :: ca5 :: ca6 :: ca7 :: ca8 :: .slice (some ⟨w4.heap.size, 0, none⟩) 64 64 :: ca10 :: ca11 :: vb12 :: vb13 :: vb14 :: ca15 :: ca16 :: ca17 :: ca18 :: ca19 :: ca20 :: ca21 :: ca22 :: ca23 :: ca24 ::
      ca25 :: ca26 :: ca27 :: ca28 :: ca29 :: ca30 :: ca31 :: ca32 :: ca33 :: ca34 :: ca35 :: ca36 :: ca37 :: ca38 :: ca39 :: ca40 :: ca41 :: ca42 :: ca43 :: ca44 :: ca45 :: ca46 :: ca47 :: ca48 :: ca49 :: ca50 :: ca51 :: ca52 ::
      ca53 :: ca54 :: ca55 :: ca56 :: ca57 :: ca58 :: ca59 :: ca60 :: ca61 :: ca62 :: ca63 :: ca64 :: ca65 :: ca66 :: ca67 :: ca68 :: ca69 :: ca70 :: ca71 :: ca72 :: ca73 :: ca74 :: ca75 :: ca76 :: ca77 :: ca78 :: ca79 :: ca80 ::
      ca81 :: ca82 :: ca83 :: ca84 :: ca85 :: ca86 :: vb87 :: vb88 :: vb89 :: vb90 :: vb91 :: vb92 :: vb93 :: vb94 :: vb95 :: vb96 :: vb97 :: vb98 :: vb99 :: vb100 :: vb101 :: vb102 :: vb103 :: vb104 :: vb105 :: vb106 :: vb107 ::
      vb108 :: vb109 :: vb110 :: vb111 :: vb112 :: vb113 :: vb114 :: vb115 :: vb116 :: vb117 :: vb118 :: vb119 :: vb120 :: vb121 :: vb122 :: vb123 :: vb124 :: vb125 :: vb126 :: vb127 :: vb128 :: vb129 :: vb130 :: vb131 :: vb132 ::
      ca133 :: ca134 :: ca135 :: ca136 :: ca137 :: ca138 :: ca139 :: ca140 :: ca141 :: ca142 :: ca143 :: ca144 :: ca145 :: ca146 :: ca147 :: ca148 :: ca149 :: ca150 :: ca151 :: ca152 :: ca153 :: ca154 :: ca155 :: ca156 :: ca157 ::
      ca158 :: ca159 :: ca160 :: ca161 :: ca162 :: ca163 :: ca164 :: ca165 :: ca166 :: ca167 :: ca168 :: ca169 :: ca170 :: ca171 :: ca172 :: ca173 :: ca174 :: ca175 :: ca176 :: ca177 :: ca178 :: ca179 :: ca180 :: ca181 :: ca182 ::
      ca183 :: ca184 :: ca185 :: ca186 :: ca187 :: ca188 :: ca189 :: ca190 :: ca191 :: ca192 :: ca193 :: ca194 :: ca195 :: ca196 :: ca197 :: ca198 :: ca199 :: ca200 :: ca201 :: ca202 :: ca203 :: ca204 :: ca205 :: ca206 :: ca207 ::
      ca208 :: ca209 :: ca210 :: ca211 :: ca212 :: ca213 :: ca214 :: ca215 :: ca216 :: ca217 :: ca218 :: ca219 :: ca220 :: ca221 :: ca222 :: ca223 :: ca224 :: ca225 :: ca226 :: ca227 :: ca228 :: ca229 :: ca230 :: ca231 :: ca232 ::
      ca233 :: ca234 :: ca235 :: ca236 :: ca237 :: ca238 :: ca239 :: ca240 :: ca241 :: ca242 :: ca243 :: ca244 :: ca245 :: ca246 :: ca247 :: ca248 :: ca249 :: ca250 :: ca251 :: ca252 :: ca253 :: ca254 :: ca255 :: ca256 :: ca257 ::
      ca258 :: ca259 :: ca260 :: ca261 :: ca262 :: ca263 :: ca264 :: ca265 :: ca266 :: ca267 :: ca268 :: ca269 :: ca270 :: ca271 :: ca272 :: ca273 :: ca274 :: ca275 :: ca276 :: ca277 :: ca278 :: ca279 :: ca280 :: ca281 :: ca282 ::
      ca283 :: ca284 :: ca285 :: ca286 :: []), []⟩ w1)) :
    Code.wp Tryz.prog (Code.loop (loopAt Tryz.f72 5)) (Ends 10 R) ⟨List.toArray (ca0 :: ca1 :: ca2 :: ca3 :: ca4 :: ca5 :: ca6 :: ca7 :: ca8 :: .slice (some ⟨w4.heap.size, 0, none⟩) 64 64 :: ca10 :: ca11 :: .int .i64 16 :: ub13 :: ub14 :: ca15 :: ca16 :: ca17 :: ca18 :: ca19 :: ca20 :: ca21 :: ca22 :: ca23 ::
      ca24 :: ca25 :: ca26 :: ca27 :: ca28 :: ca29 :: ca30 :: ca31 :: ca32 :: ca33 :: ca34 :: ca35 :: ca36 :: ca37 :: ca38 :: ca39 :: ca40 :: ca41 :: ca42 :: ca43 :: ca44 :: ca45 :: ca46 :: ca47 :: ca48 :: ca49 :: ca50 :: ca51 ::
      ca52 :: ca53 :: ca54 :: ca55 :: ca56 :: ca57 :: ca58 :: ca59 :: ca60 :: ca61 :: ca62 :: ca63 :: ca64 :: ca65 :: ca66 :: ca67 :: ca68 :: ca69 :: ca70 :: ca71 :: ca72 :: ca73 :: ca74 :: ca75 :: ca76 :: ca77 :: ca78 :: ca79 ::
      ca80 :: ca81 :: ca82 :: ca83 :: ca84 :: ca85 :: ca86 :: ub87 :: ub88 :: ub89 :: ub90 :: ub91 :: ub92 :: ub93 :: ub94 :: ub95 :: ub96 :: ub97 :: ub98 :: ub99 :: ub100 :: ub101 :: ub102 :: ub103 :: ub104 :: ub105 :: ub106 ::
      ub107 :: ub108 :: ub109 :: ub110 :: ub111 :: ub112 :: ub113 :: ub114 :: ub115 :: ub116 :: ub117 :: ub118 :: ub119 :: ub120 :: ub121 :: ub122 :: ub123 :: ub124 :: ub125 :: ub126 :: ub127 :: ub128 :: ub129 :: ub130 :: ub131 ::
      ub132 :: ca133 :: ca134 :: ca135 :: ca136 :: ca137 :: ca138 :: ca139 :: ca140 :: ca141 :: ca142 :: ca143 :: ca144 :: ca145 :: ca146 :: ca147 :: ca148 :: ca149 :: ca150 :: ca151 :: ca152 :: ca153 :: ca154 :: ca155 :: ca156 ::
      ca157 :: ca158 :: ca159 :: ca160 :: ca161 :: ca162 :: ca163 :: ca164 :: ca165 :: ca166 :: ca167 :: ca168 :: ca169 :: ca170 :: ca171 :: ca172 :: ca173 :: ca174 :: ca175 :: ca176 :: ca177 :: ca178 :: ca179 :: ca180 :: ca181 ::
      ca182 :: ca183 :: ca184 :: ca185 :: ca186 :: ca187 :: ca188 :: ca189 :: ca190 :: ca191 :: ca192 :: ca193 :: ca194 :: ca195 :: ca196 :: ca197 :: ca198 :: ca199 :: ca200 :: ca201 :: ca202 :: ca203 :: ca204 :: ca205 :: ca206 ::
      ca207 :: ca208 :: ca209 :: ca210 :: ca211 :: ca212 :: ca213 :: ca214 :: ca215 :: ca216 :: ca217 :: ca218 :: ca219 :: ca220 :: ca221 :: ca222 :: ca223 :: ca224 :: ca225 :: ca226 :: ca227 :: ca228 :: ca229 :: ca230 :: ca231 ::
      ca232 :: ca233 :: ca234 :: ca235 :: ca236 :: ca237 :: ca238 :: ca239 :: ca240 :: ca241 :: ca242 :: ca243 :: ca244 :: ca245 :: ca246 :: ca247 :: ca248 :: ca249 :: ca250 :: ca251 :: ca252 :: ca253 :: ca254 :: ca255 :: ca256 ::
      ca257 :: ca258 :: ca259 :: ca260 :: ca261 :: ca262 :: ca263 :: ca264 :: ca265 :: ca266 :: ca267 :: ca268 :: ca269 :: ca270 :: ca271 :: ca272 :: ca273 :: ca274 :: ca275 :: ca276 :: ca277 :: ca278 :: ca279 :: ca280 :: ca281 ::
      ca282 :: ca283 :: ca284 :: ca285 :: ca286 :: []), []⟩ w := by
  conv => arg 2; arg 1; whnf
  go_loopw [12] (fun i wq => ∃ k : Nat, 16 ≤ k ∧ k ≤ 64 ∧ i = .int .i64 k ∧ OwnN w4.heap.size 143 .u32 (.slice (some ⟨w4.heap.size, 0, none⟩) 64 64) (arrW (wAt p m) k) wq ∧ Below w4.heap.size w4 wq) (fun i _ => 64 - (intOf i).toNat)
  case atStart => exact ⟨16, by omega, by omega, rfl, HW.out, HB5.out⟩
  case round =>
    clear HW HB5
    obtain ⟨k, hk16, hk, rfl, ho, hb⟩ := hrel
    have HW := Lib.hid ho
    have HB5 := Lib.hid hb
    clear ho hb
    by_cases hlk : k < 64
    · have hwl := wl_lt HBY.out k
      have hlen := arrW_len (wAt p m) hk
      have hat : ∀ d, 1 ≤ d → d ≤ k → (arrW (wAt p m) k)[k - d]? = some ((wl (wAt p m) k).getD (k - d) 0) := by
        intro d h1 h2
        unfold arrW
        rw [List.getElem?_append_left (by rw [wl_len]; omega), List.getD_eq_getElem?_getD, List.getElem?_eq_getElem (by rw [wl_len]; omega)]
        rfl
      have hW := HW.out
      rw [← hlen] at hW
      obtain ⟨j16, hj16⟩ : ∃ j, j = k - 16 := ⟨_, rfl⟩
      obtain ⟨j7, hj7⟩ : ∃ j, j = k - 7 := ⟨_, rfl⟩
      obtain ⟨j15, hj15⟩ : ∃ j, j = k - 15 := ⟨_, rfl⟩
      obtain ⟨j2, hj2⟩ : ∃ j, j = k - 2 := ⟨_, rfl⟩
      have a16 := hat 16 (by omega) (by omega)
      have a7 := hat 7 (by omega) (by omega)
      have a15 := hat 15 (by omega) (by omega)
      have a2 := hat 2 (by omega) (by omega)
      rw [← hj16] at a16
      rw [← hj7] at a7
      rw [← hj15] at a15
      rw [← hj2] at a2
      have x15 := getD_lt hwl (by decide) j15
      have x2 := getD_lt hwl (by decide) j2
      have x16 := getD_lt hwl (by decide) j16
      have x7 := getD_lt hwl (by decide) j7
      have hnx : nextW (wl (wAt p m) k) k = ((wl (wAt p m) k).getD (k - 16) 0 + (wl (wAt p m) k).getD (k - 7) 0 + s0 ((wl (wAt p m) k).getD (k - 15) 0) + s1 ((wl (wAt p m) k).getD (k - 2) 0)) % 4294967296 := rfl
      rw [← hj16, ← hj7, ← hj15, ← hj2] at hnx
      generalize (wl (wAt p m) k).getD j16 0 = y16 at a16 x16 hnx
      generalize (wl (wAt p m) k).getD j7 0 = y7 at a7 x7 hnx
      generalize (wl (wAt p m) k).getD j15 0 = y15 at a15 x15 hnx
      generalize (wl (wAt p m) k).getD j2 0 = y2 at a2 x2 hnx
      have c15 := hW.cellAt _ _ a15
      have c2 := hW.cellAt _ _ a2
      have HA16 := Lib.hid a16
      have HA7 := Lib.hid a7
      have HNX := Lib.hid hnx
      have HLN := Lib.hid hlen
      have e16 : IntKind.i64.wrap ((k : Int) - 16) = (j16 : Int) := by rw [IntKind.wrap_i64]; omega
      have e7 : IntKind.i64.wrap ((k : Int) - 7) = (j7 : Int) := by rw [IntKind.wrap_i64]; omega
      have e15 : IntKind.i64.wrap ((k : Int) - 15) = (j15 : Int) := by rw [IntKind.wrap_i64]; omega
      have e2 : IntKind.i64.wrap ((k : Int) - 2) = (j2 : Int) := by rw [IntKind.wrap_i64]; omega
      have d15 : (k : Int) - 15 = (j15 : Int) := by omega
      have d2 : (k : Int) - 2 = (j2 : Int) := by omega
      have b16 : (j16 : Int) < 64 := by omega
      have b7 : (j7 : Int) < 64 := by omega
      have b15 : (j15 : Int) < 64 := by omega
      have b2 : (j2 : Int) < 64 := by omega
      have hfrk := HW.out
      clear hwl hat hW hlen a16 a7 a15 a2 hnx hj16 hj7 hj15 hj2 hfrk
      go_wp2_with fail
      go_quiet (fail)
      go_wp2_with fail
      obtain ⟨w7, hw7⟩ : ∃ x, x = (wr.drewN nq).drew := ⟨_, rfl⟩
      have HW7 := Lib.hid (show OwnN w4.heap.size 143 .u32 (.slice (some ⟨w4.heap.size, 0, none⟩) 64 64) (arrW (wAt p m) k) w7 by rw [hw7]; exact HW.out)
      have HB7 := Lib.hid (show Below w4.heap.size w4 w7 by rw [hw7]; exact drawn_below (drawn_below HB5.out nq) 1)
      refine wp_region_still_tail 32 (by kernel_rfl) (by kernel_rfl) ?_
      simp only [List.take_succ_cons, List.take_zero, List.drop_succ_cons, List.drop_zero]
      change wpStill _ _ (wr.drewN nq).drew (fun a' => wpList _ _ _ _ a' (wr.drewN nq).drew) _ _
      rw [← hw7]
      clear hw7 c15 c2
      have hW := HW7.out
      have hfr := OwnN.frozenAt HLN.out.symm hW k
      have HST5 := Lib.hid (OwnN.stored HLN.out.symm hW k (nextW (wl (wAt p m) k) k))
      rw [arrW_next (by omega) hlk] at HST5
      rw [← HLN.out] at hW
      have c16 := hW.cellAt _ _ HA16.out
      have c7 := hW.cellAt _ _ HA7.out
      have ck := hW.cellAt k 0 (by unfold arrW; rw [List.getElem?_append_right (by rw [wl_len]; exact Nat.le_refl _), wl_len, Nat.sub_self, List.getElem?_replicate, if_pos (by omega)])
      clear hW e15 e2 d15 d2 b15 b2
      repeat still_step
      still_call (turn_still y15 7 _ x15 (by decide) (by decide))
      repeat still_step
      still_call (turn_still y15 18 _ x15 (by decide) (by decide))
      repeat still_step
      still_call (turn_still y2 17 _ x2 (by decide) (by decide))
      repeat still_step
      still_call (turn_still y2 19 _ x2 (by decide) (by decide))
      repeat still_step
      refine wpStill_nil ?_
      go_wp2_with fail
      have hv := w_int y16 y7 y15 y2 x15 x2 (by omega) (by omega)
      rw [← HNX.out, show ((y15 / 8 : Nat) : Int) = (y15 : Int) / 8 by omega, show ((y2 / 1024 : Nat) : Int) = (y2 : Int) / 1024 by omega] at hv
      refine ⟨⟨k + 1, by omega, by omega, by go_num, ?_, below_set HB7.out (Nat.le_refl _) _ _⟩, by simp [intOf]; omega⟩
      rw [hv]
      exact HST5.out
    · obtain rfl : k = 64 := by omega
      rw [show ((64 : Nat) : Int) = 64 from rfl]
      rw [arrW_full] at HW
      go_wp2_with fail
      exact ends_exit (hexit.out _ ⟨HW.out, HB5.out⟩)
end Go.Proofs.YtpfhlhcnmeodbaaGreatDoor
namespace Go.Proofs.YtpfhlhcnmeodbaaGreatDoor
open Go.RowKit
set_option maxHeartbeats 4000000 in
set_option maxRecDepth 100000 in
theorem of_loop7 {p : List Nat} {m : Nat} {h0 : S8} {v7 : Value} {w w6 : World} {BK BW kb wb : Nat}
    {ca0 ca1 ca2 ca3 ca5 ca6 ca7 ca8 ca10 ca11 ca12 ca13 ca14 ub17 ub18 ca19 ca20 ca21 ca22 ca23 ca24 ca25 ca26 ca27 ca28 ca29 ca30 ca31 ca32 ca33
    ca34 ca35 ca36 ca37 ca38 ca39 ca40 ca41 ca42 ca43 ca44 ca45 ca46 ca47 ca48 ca49 ca50 ca51 ca52 ca53 ca54 ca55 ca56 ca57 ca58 ca59 ca60 ca61 ca62 ca63
    ca64 ca65 ca66 ca67 ca68 ca69 ca70 ca71 ca72 ca73 ca74 ca75 ca76 ca77 ca78 ca79 ca80 ca81 ca82 ca83 ca84 ca85 ca86 ca87 ca88 ca89 ca90 ca91 ca92 ca93
    ca94 ca95 ca96 ca97 ca98 ca99 ca100 ca101 ca102 ca103 ca104 ca105 ca106 ca107 ca108 ca109 ca110 ca111 ca112 ca113 ca114 ca115 ca116 ca117 ca118 ca119 ca120 ca121 ca122 ca123
    ca124 ca125 ca126 ca127 ca128 ca129 ca130 ca131 ca132 ca133 ca134 ca135 ub136 ub137 ub138 ub139 ub140 ub141 ub142 ub143 ub144 ub145 ub146 ub147 ub148 ub149 ub150 ub151 ub152 ub153
    ub154 ub155 ub156 ub157 ub158 ub159 ub160 ub161 ub162 ub163 ub164 ub165 ub166 ub167 ub168 ub169 ub170 ub171 ub172 ub173 ub174 ub175 ub176 ub177 ub178 ub179 ub180 ub181 ub182 ub183
    ub184 ub185 ub186 ub187 ub188 ub189 ub190 ub191 ub192 ub193 ub194 ub195 ub196 ub197 ub198 ub199 ub200 ub201 ub202 ub203 ub204 ub205 ub206 ub207 ub208 ub209 ub210 ub211 ub212 ub213
    ub214 ub215 ub216 ub217 ub218 ub219 ub220 ub221 ub222 ub223 ub224 ub225 ub226 ub227 ub228 ub229 ub230 ub231 ub232 ub233 ub234 ub235 ub236 ub237 ub238 ub239 ub240 ub241 ub242 ub243
    ub244 ub245 ub246 ub247 ub248 ub249 ca250 ca251 ca252 ca253 ca254 ca255 ca256 ca257 ca258 ca259 ca260 ca261 ca262 ca263 ca264 ca265 ca266 ca267 ca268 ca269 ca270 ca271 ca272 ca273
    ca274 ca275 ca276 ca277 ca278 ca279 ca280 ca281 ca282 ca283 ca284 ca285 ca286 : Value}
    (HBY : Hid (∀ j, wAt p m j < 256)) (HOK : Hid h0.Ok)
    (HK : Hid (OwnN BK 143 .u32 (.slice (some ⟨kb, 0, none⟩) 64 64) shaK w6)) (HW : Hid (OwnN BW 143 .u32 (.slice (some ⟨wb, 0, none⟩) 64 64) (wl (wAt p m) 64) w6))
    (HV : Hid (OwnN w6.heap.size 143 .u32 v7 h0.list w)) (HB7 : Hid (Below w6.heap.size w6 w))
    (R : Act → World → Prop)
    (hexit : Hid (∀ (v8 : Value) (w1 : World), OwnN w6.heap.size 143 .u32 v8 (rl h0 (wl (wAt p m) 64) 64).list w1 ∧ Below w6.heap.size w6 w1 → ∀ {vb16 vb17 vb18 vb136 vb137 vb138 vb139 vb140 vb141 vb142 vb143 vb144 vb145 vb146 vb147 vb148 vb149 vb150 vb151 vb152 vb153 vb154 vb155 vb156 vb157 vb158 vb159 vb160 vb161 vb162
    vb163 vb164 vb165 vb166 vb167 vb168 vb169 vb170 vb171 vb172 vb173 vb174 vb175 vb176 vb177 vb178 vb179 vb180 vb181 vb182 vb183 vb184 vb185 vb186 vb187 vb188 vb189 vb190 vb191 vb192
    vb193 vb194 vb195 vb196 vb197 vb198 vb199 vb200 vb201 vb202 vb203 vb204 vb205 vb206 vb207 vb208 vb209 vb210 vb211 vb212 vb213 vb214 vb215 vb216 vb217 vb218 vb219 vb220 vb221 vb222
    vb223 vb224 vb225 vb226 vb227 vb228 vb229 vb230 vb231 vb232 vb233 vb234 vb235 vb236 vb237 vb238 vb239 vb240 vb241 vb242 vb243 vb244 vb245 vb246 vb247 vb248 vb249 : Value},
      R ⟨List.toArray (ca0 :: ca1 :: ca2 :: ca3 :: .slice (some ⟨kb, 0, none⟩) 64 64 :: ca5 :: ca6 :: ca7 :: ca8 :: .slice (some ⟨wb, 0, none⟩) 64 64 :: ca10 :: ca11 :: ca12 :: ca13 :: ca14 :: v8 :: vb16 :: vb17 :: vb18 :: ca19 :: ca20 :: ca21 ::
      ca22 :: ca23 :: ca24 :: ca25 :: ca26 :: ca27 :: ca28 :: ca29 :: ca30 :: ca31 :: ca32 :: ca33 :: ca34 :: ca35 :: ca36 :: ca37 :: ca38 :: ca39 :: ca40 :: ca41 :: ca42 :: ca43 :: ca44 :: ca45 :: ca46 :: ca47 :: ca48 :: ca49 ::
      ca50 :: ca51 :: ca52 :: ca53 :: ca54 :: ca55 :: ca56 :: ca57 :: ca58 :: ca59 :: ca60 :: ca61 :: ca62 :: ca63 :: ca64 :: ca65 :: ca66 :: ca67 :: ca68 :: ca69 :: ca70 :: ca71 :: ca72 :: ca73 :: ca74 :: ca75 :: ca76 :: ca77 ::
      ca78 :: ca79 :: ca80 :: ca81 :: ca82 :: ca83 :: ca84 :: ca85 :: ca86 :: ca87 :: ca88 :: ca89 :: ca90 :: ca91 :: ca92 :: ca93 :: ca94 :: ca95 :: ca96 :: ca97 :: ca98 :: ca99 :: ca100 :: ca101 :: ca102 :: ca103 :: ca104 :: ca105 ::
      ca106 :: ca107 :: ca108 :: ca109 :: ca110 :: ca111 :: ca112 :: ca113 :: ca114 :: ca115 :: ca116 :: ca117 :: ca118 :: ca119 :: ca120 :: ca121 :: ca122 :: ca123 :: ca124 :: ca125 :: ca126 :: ca127 :: ca128 :: ca129 :: ca130 ::
      ca131 :: ca132 :: ca133 :: ca134 :: ca135 :: vb136 :: vb137 :: vb138 :: vb139 :: vb140 :: vb141 :: vb142 :: vb143 :: vb144 :: vb145 :: vb146 :: vb147 :: vb148 :: vb149 :: vb150 :: vb151 :: vb152 :: vb153 :: vb154 :: vb155 ::
      vb156 :: vb157 :: vb158 :: vb159 :: vb160 :: vb161 :: vb162 :: vb163 :: vb164 :: vb165 :: vb166 :: vb167 :: vb168 :: vb169 :: vb170 :: vb171 :: vb172 :: vb173 :: vb174 :: vb175 :: vb176 :: vb177 :: vb178 :: vb179 :: vb180 ::
      vb181 :: vb182 :: vb183 :: vb184 :: vb185 :: vb186 :: vb187 :: vb188 :: vb189 :: vb190 :: vb191 :: vb192 :: vb193 :: vb194 :: vb195 :: vb196 :: vb197 :: vb198 :: vb199 :: vb200 :: vb201 :: vb202 :: vb203 :: vb204 :: vb205 ::
      vb206 :: vb207 :: vb208 :: vb209 :: vb210 :: vb211 :: vb212 :: vb213 :: vb214 :: vb215 :: vb216 :: vb217 :: vb218 :: vb219 :: vb220 :: vb221 :: vb222 :: vb223 :: vb224 :: vb225 :: vb226 :: vb227 :: vb228 :: vb229 :: vb230 ::
      vb231 :: vb232 :: vb233 :: vb234 :: vb235 :: vb236 :: vb237 :: vb238 :: vb239 :: vb240 :: vb241 :: vb242 :: vb243 :: vb244 :: vb245 :: vb246 :: vb247 :: vb248 :: vb249 :: ca250 :: ca251 :: ca252 :: ca253 :: ca254 :: ca255 ::
      ca256 :: ca257 :: ca258 :: ca259 :: ca260 :: ca261 :: ca262 :: ca263 :: ca264 :: ca265 :: ca266 :: ca267 :: ca268 :: ca269 :: ca270 :: ca271 :: ca272 :: ca273 :: ca274 :: ca275 :: ca276 :: ca277 :: ca278 :: ca279 :: ca280 ::
      ca281 :: ca282 :: ca283 :: ca284 :: ca285 :: ca286 :: []), []⟩ w1)) :
    Code.wp Tryz.prog (Code.loop (loopAt Tryz.f72 6)) (Ends 12 R) ⟨List.toArray (ca0 :: ca1 :: ca2 :: ca3 :: .slice (some ⟨kb, 0, none⟩) 64 64 :: ca5 :: ca6 :: ca7 :: ca8 :: .slice (some ⟨wb, 0, none⟩) 64 64 :: ca10 :: ca11 :: ca12 :: ca13 :: ca14 :: v7 :: .int .i64 0 :: ub17 :: ub18 :: ca19 :: ca20 ::
      ca21 :: ca22 :: ca23 :: ca24 :: ca25 :: ca26 :: ca27 :: ca28 :: ca29 :: ca30 :: ca31 :: ca32 :: ca33 :: ca34 :: ca35 :: ca36 :: ca37 :: ca38 :: ca39 :: ca40 :: ca41 :: ca42 :: ca43 :: ca44 :: ca45 :: ca46 :: ca47 :: ca48 ::
      ca49 :: ca50 :: ca51 :: ca52 :: ca53 :: ca54 :: ca55 :: ca56 :: ca57 :: ca58 :: ca59 :: ca60 :: ca61 :: ca62 :: ca63 :: ca64 :: ca65 :: ca66 :: ca67 :: ca68 :: ca69 :: ca70 :: ca71 :: ca72 :: ca73 :: ca74 :: ca75 :: ca76 ::
      ca77 :: ca78 :: ca79 :: ca80 :: ca81 :: ca82 :: ca83 :: ca84 :: ca85 :: ca86 :: ca87 :: ca88 :: ca89 :: ca90 :: ca91 :: ca92 :: ca93 :: ca94 :: ca95 :: ca96 :: ca97 :: ca98 :: ca99 :: ca100 :: ca101 :: ca102 :: ca103 :: ca104 ::
      ca105 :: ca106 :: ca107 :: ca108 :: ca109 :: ca110 :: ca111 :: ca112 :: ca113 :: ca114 :: ca115 :: ca116 :: ca117 :: ca118 :: ca119 :: ca120 :: ca121 :: ca122 :: ca123 :: ca124 :: ca125 :: ca126 :: ca127 :: ca128 :: ca129 ::
      ca130 :: ca131 :: ca132 :: ca133 :: ca134 :: ca135 :: ub136 :: ub137 :: ub138 :: ub139 :: ub140 :: ub141 :: ub142 :: ub143 :: ub144 :: ub145 :: ub146 :: ub147 :: ub148 :: ub149 :: ub150 :: ub151 :: ub152 :: ub153 :: ub154 ::
      ub155 :: ub156 :: ub157 :: ub158 :: ub159 :: ub160 :: ub161 :: ub162 :: ub163 :: ub164 :: ub165 :: ub166 :: ub167 :: ub168 :: ub169 :: ub170 :: ub171 :: ub172 :: ub173 :: ub174 :: ub175 :: ub176 :: ub177 :: ub178 :: ub179 ::
      ub180 :: ub181 :: ub182 :: ub183 :: ub184 :: ub185 :: ub186 :: ub187 :: ub188 :: ub189 :: ub190 :: ub191 :: ub192 :: ub193 :: ub194 :: ub195 :: ub196 :: ub197 :: ub198 :: ub199 :: ub200 :: ub201 :: ub202 :: ub203 :: ub204 ::
      ub205 :: ub206 :: ub207 :: ub208 :: ub209 :: ub210 :: ub211 :: ub212 :: ub213 :: ub214 :: ub215 :: ub216 :: ub217 :: ub218 :: ub219 :: ub220 :: ub221 :: ub222 :: ub223 :: ub224 :: ub225 :: ub226 :: ub227 :: ub228 :: ub229 ::
      ub230 :: ub231 :: ub232 :: ub233 :: ub234 :: ub235 :: ub236 :: ub237 :: ub238 :: ub239 :: ub240 :: ub241 :: ub242 :: ub243 :: ub244 :: ub245 :: ub246 :: ub247 :: ub248 :: ub249 :: ca250 :: ca251 :: ca252 :: ca253 :: ca254 ::
      ca255 :: ca256 :: ca257 :: ca258 :: ca259 :: ca260 :: ca261 :: ca262 :: ca263 :: ca264 :: ca265 :: ca266 :: ca267 :: ca268 :: ca269 :: ca270 :: ca271 :: ca272 :: ca273 :: ca274 :: ca275 :: ca276 :: ca277 :: ca278 :: ca279 ::
      ca280 :: ca281 :: ca282 :: ca283 :: ca284 :: ca285 :: ca286 :: []), []⟩ w := by
  conv => arg 2; arg 1; whnf
  go_loopw [15, 16] (fun v i wq => ∃ k : Nat, k ≤ 64 ∧ i = .int .i64 k ∧ OwnN w6.heap.size 143 .u32 v (rl h0 (wl (wAt p m) 64) k).list wq ∧ Below w6.heap.size w6 wq) (fun _ i _ => 64 - (intOf i).toNat)
  case atStart => exact ⟨0, by omega, rfl, HV.out, HB7.out⟩
  case round =>
    clear HV HB7
    obtain ⟨k, hk, rfl, ho, hb⟩ := hrel
    obtain ⟨gv, cv, rfl, hgv, hgv2⟩ := ho.formB (Nat.zero_lt_succ 7)
    have hok := rl_ok HOK.out (wl (wAt p m) 64) k
    have HSTr := Lib.hid (HK.out.below hb)
    have HWr := Lib.hid (HW.out.below hb)
    have HV := Lib.hid ho
    have HB7 := Lib.hid hb
    have HX := Lib.hid (show rl (h0) (wl (wAt p m) 64) (k + 1) = rnd (rl (h0) (wl (wAt p m) 64) k) (shaK.getD k 0) ((wl (wAt p m) 64).getD k 0) from rfl)
    clear hb
    by_cases hlk : k < 64
    · generalize rl (h0) (wl (wAt p m) 64) k = v at ho hok HV HX ⊢
      have c0 := ho.cellAt 0 _ rfl
      have c1 := ho.cellAt 1 _ rfl
      have c2 := ho.cellAt 2 _ rfl
      have c3 := ho.cellAt 3 _ rfl
      have c4 := ho.cellAt 4 _ rfl
      have c5 := ho.cellAt 5 _ rfl
      have c6 := ho.cellAt 6 _ rfl
      have c7 := ho.cellAt 7 _ rfl
      have hK := HSTr.out
      have hW := HWr.out
      have cK := hK.cellN shaK_len.symm k hlk
      have cW := hW.cellN (wl_len (wAt p m) 64).symm k hlk
      have xK := getD_lt shaK_lt (by decide) k
      have xW := getD_lt (wl_lt HBY.out 64) (by decide) k
      generalize shaK.getD k 0 = kk at cK xK HX
      generalize (wl (wAt p m) 64).getD k 0 = ww at cW xW HX
      clear hK hW ho
      obtain ⟨q0, q1, q2, q3, q4, q5, q6, q7⟩ := v
      obtain ⟨b0, b1, b2, b3, b4, b5, b6, b7⟩ := hok
      rw [show (S8.list ⟨q0, q1, q2, q3, q4, q5, q6, q7⟩).length = 8 from rfl]
      simp only at c0 c1 c2 c3 c4 c5 c6 c7 b0 b1 b2 b3 b4 b5 b6 b7
      go_wp2_with fail
      go_quiet (first | (go_at_call 95; refine Calls.quiet_of_same (turn_still _ _ _ (by assumption) (by decide) (by decide))))
      go_wp2_with fail
      rw [t_int q0 q1 q2 q3 q4 q5 q6 q7 kk ww b4 b5 b6]
      have ht := tN_lt ⟨q0, q1, q2, q3, q4, q5, q6, q7⟩ kk ww
      have HT := Lib.hid (show (rnd ⟨q0, q1, q2, q3, q4, q5, q6, q7⟩ kk ww).list = [(tN ⟨q0, q1, q2, q3, q4, q5, q6, q7⟩ kk ww + uN ⟨q0, q1, q2, q3, q4, q5, q6, q7⟩) % 4294967296, q0, q1, q2, (q3 + tN ⟨q0, q1, q2, q3, q4, q5, q6, q7⟩ kk ww) % 4294967296, q4, q5, q6] from rfl)
      have hu := uN_lt ⟨q0, q1, q2, q3, q4, q5, q6, q7⟩
      have HU := Lib.hid (u_int q0 q1 q2 q3 q4 q5 q6 q7 b0 b1 b2)
      generalize tN ⟨q0, q1, q2, q3, q4, q5, q6, q7⟩ kk ww = t at ht HT ⊢
      generalize uN ⟨q0, q1, q2, q3, q4, q5, q6, q7⟩ = u at hu HT HU
      obtain ⟨w8, hw8⟩ : ∃ x, x = wr.drewN nq := ⟨_, rfl⟩
      rw [← hw8]
      replace c0 : w8.cell? ⟨gv, 0, none⟩ = some (.int .u32 (q0 : Int)) := by rw [hw8]; exact c0
      replace c1 : w8.cell? ⟨gv, 1, none⟩ = some (.int .u32 (q1 : Int)) := by rw [hw8]; exact c1
      replace c2 : w8.cell? ⟨gv, 2, none⟩ = some (.int .u32 (q2 : Int)) := by rw [hw8]; exact c2
      replace c3 : w8.cell? ⟨gv, 3, none⟩ = some (.int .u32 (q3 : Int)) := by rw [hw8]; exact c3
      replace c4 : w8.cell? ⟨gv, 4, none⟩ = some (.int .u32 (q4 : Int)) := by rw [hw8]; exact c4
      replace c5 : w8.cell? ⟨gv, 5, none⟩ = some (.int .u32 (q5 : Int)) := by rw [hw8]; exact c5
      replace c6 : w8.cell? ⟨gv, 6, none⟩ = some (.int .u32 (q6 : Int)) := by rw [hw8]; exact c6
      have HB8 := Lib.hid (show Below w6.heap.size w6 w8 by rw [hw8]; exact drawn_below HB7.out nq)
      clear hw8 c7 cK cW xK xW
      go_quiet (first | (go_at_call 95; refine Calls.quiet_of_same (turn_still _ _ _ (by assumption) (by decide) (by decide))))
      go_wp2_with fail
      rw [HU.out]
      obtain ⟨w9, hw9⟩ : ∃ x, x = (w8.drewN nq).drew := ⟨_, rfl⟩
      replace c0 : w9.cell? ⟨gv, 0, none⟩ = some (.int .u32 (q0 : Int)) := by rw [hw9]; exact c0
      replace c1 : w9.cell? ⟨gv, 1, none⟩ = some (.int .u32 (q1 : Int)) := by rw [hw9]; exact c1
      replace c2 : w9.cell? ⟨gv, 2, none⟩ = some (.int .u32 (q2 : Int)) := by rw [hw9]; exact c2
      replace c3 : w9.cell? ⟨gv, 3, none⟩ = some (.int .u32 (q3 : Int)) := by rw [hw9]; exact c3
      replace c4 : w9.cell? ⟨gv, 4, none⟩ = some (.int .u32 (q4 : Int)) := by rw [hw9]; exact c4
      replace c5 : w9.cell? ⟨gv, 5, none⟩ = some (.int .u32 (q5 : Int)) := by rw [hw9]; exact c5
      replace c6 : w9.cell? ⟨gv, 6, none⟩ = some (.int .u32 (q6 : Int)) := by rw [hw9]; exact c6
      have HB9 := Lib.hid (show Below w6.heap.size w6 w9 by rw [hw9]; exact drawn_below HB8.out (nq + 1))
      refine wp_region_still_tail 26 (by kernel_rfl) (by kernel_rfl) ?_
      simp only [List.take_succ_cons, List.take_zero, List.drop_succ_cons, List.drop_zero]
      change wpStill _ _ (w8.drewN nq).drew (fun a' => wpList _ _ _ _ a' (w8.drewN nq).drew) _ _
      rw [← hw9]
      clear hw9
      repeat still_step
      refine wpStill_nil ?_
      go_wp2_with fail
      refine ⟨⟨k + 1, by omega, by go_num, ?_, HB9.out.alloc HB9.out.size _⟩, by simp [intOf]; omega⟩
      rw [HX.out, OwnN, HT.out]
      have h := World.ownsRow_lit (base := w6.heap.size) (e := 143) (size := 1) w9 (nums .u32 [(t + u) % 4294967296, q0, q1, q2, (q3 + t) % 4294967296, q4, q5, q6]).toArray 8 HB9.out.size (by unfold maxLen; omega) rfl
      simpa [nums] using h
    · obtain rfl : k = 64 := by omega
      rw [show ((64 : Nat) : Int) = 64 from rfl]
      go_wp2_with fail
      exact ends_exit (hexit.out _ _ ⟨HV.out, HB7.out⟩)
end Go.Proofs.YtpfhlhcnmeodbaaGreatDoor
namespace Go.Proofs.YtpfhlhcnmeodbaaGreatDoor
open Go.RowKit
set_option maxHeartbeats 4000000 in
set_option maxRecDepth 100000 in
theorem of_loop8 {h0 v0 : S8} {BH BV hb gv cv : Nat} {w : World}
    {ca0 ca1 ca2 ca4 ca5 ca6 ca7 ca8 ca9 ca10 ca11 ca12 ca13 ca14 ca16 ca17 ca18 ub19 ca20 ca21 ca22 ca23 ca24 ca25 ca26 ca27 ca28 ca29 ca30 ca31
    ca32 ca33 ca34 ca35 ca36 ca37 ca38 ca39 ca40 ca41 ca42 ca43 ca44 ca45 ca46 ca47 ca48 ca49 ca50 ca51 ca52 ca53 ca54 ca55 ca56 ca57 ca58 ca59 ca60 ca61
    ca62 ca63 ca64 ca65 ca66 ca67 ca68 ca69 ca70 ca71 ca72 ca73 ca74 ca75 ca76 ca77 ca78 ca79 ca80 ca81 ca82 ca83 ca84 ca85 ca86 ca87 ca88 ca89 ca90 ca91
    ca92 ca93 ca94 ca95 ca96 ca97 ca98 ca99 ca100 ca101 ca102 ca103 ca104 ca105 ca106 ca107 ca108 ca109 ca110 ca111 ca112 ca113 ca114 ca115 ca116 ca117 ca118 ca119 ca120 ca121
    ca122 ca123 ca124 ca125 ca126 ca127 ca128 ca129 ca130 ca131 ca132 ca133 ca134 ca135 ca136 ca137 ca138 ca139 ca140 ca141 ca142 ca143 ca144 ca145 ca146 ca147 ca148 ca149 ca150 ca151
    ca152 ca153 ca154 ca155 ca156 ca157 ca158 ca159 ca160 ca161 ca162 ca163 ca164 ca165 ca166 ca167 ca168 ca169 ca170 ca171 ca172 ca173 ca174 ca175 ca176 ca177 ca178 ca179 ca180 ca181
    ca182 ca183 ca184 ca185 ca186 ca187 ca188 ca189 ca190 ca191 ca192 ca193 ca194 ca195 ca196 ca197 ca198 ca199 ca200 ca201 ca202 ca203 ca204 ca205 ca206 ca207 ca208 ca209 ca210 ca211
    ca212 ca213 ca214 ca215 ca216 ca217 ca218 ca219 ca220 ca221 ca222 ca223 ca224 ca225 ca226 ca227 ca228 ca229 ca230 ca231 ca232 ca233 ca234 ca235 ca236 ca237 ca238 ca239 ca240 ca241
    ca242 ca243 ca244 ca245 ca246 ca247 ca248 ca249 ca250 ub253 ub254 ub255 ub256 ub257 ub258 ub259 ub260 ub261 ub262 ub263 ub264 ub265 ub266 ub267 ca268 ca269 ca270 ca271 ca272 ca273
    ca274 ca275 ca276 ca277 ca278 ca279 ca280 ca281 ca282 ca283 ca284 ca285 ca286 : Value}
    (hne : hb ≠ gv) (HOH : Hid h0.Ok) (HOV : Hid v0.Ok) (HH : Hid (OwnN BH 143 .u32 (.slice (some ⟨hb, 0, none⟩) 8 8) h0.list w)) (HV : Hid (OwnN BV 143 .u32 (.slice (some ⟨gv, 0, none⟩) 8 cv) v0.list w))
    (R : Act → World → Prop)
    (hexit : Hid (∀  (w1 : World), OwnN BH 143 .u32 (.slice (some ⟨hb, 0, none⟩) 8 8) (addS h0 v0).list w1 ∧ But hb w w1 → ∀ {vb19 vb252 vb253 vb254 vb255 vb256 vb257 vb258 vb259 vb260 vb261 vb262 vb263 vb264 vb265 vb266 vb267 : Value},
      R ⟨List.toArray (ca0 :: ca1 :: ca2 :: .slice (some ⟨hb, 0, none⟩) 8 8 :: ca4 :: ca5 :: ca6 :: ca7 :: ca8 :: ca9 :: ca10 :: ca11 :: ca12 :: ca13 :: ca14 :: .slice (some ⟨gv, 0, none⟩) 8 cv :: ca16 :: ca17 :: ca18 :: vb19 :: ca20 :: ca21 :: ca22 ::
      ca23 :: ca24 :: ca25 :: ca26 :: ca27 :: ca28 :: ca29 :: ca30 :: ca31 :: ca32 :: ca33 :: ca34 :: ca35 :: ca36 :: ca37 :: ca38 :: ca39 :: ca40 :: ca41 :: ca42 :: ca43 :: ca44 :: ca45 :: ca46 :: ca47 :: ca48 :: ca49 :: ca50 ::
      ca51 :: ca52 :: ca53 :: ca54 :: ca55 :: ca56 :: ca57 :: ca58 :: ca59 :: ca60 :: ca61 :: ca62 :: ca63 :: ca64 :: ca65 :: ca66 :: ca67 :: ca68 :: ca69 :: ca70 :: ca71 :: ca72 :: ca73 :: ca74 :: ca75 :: ca76 :: ca77 :: ca78 ::
      ca79 :: ca80 :: ca81 :: ca82 :: ca83 :: ca84 :: ca85 :: ca86 :: ca87 :: ca88 :: ca89 :: ca90 :: ca91 :: ca92 :: ca93 :: ca94 :: ca95 :: ca96 :: ca97 :: ca98 :: ca99 :: ca100 :: ca101 :: ca102 :: ca103 :: ca104 :: ca105 ::
      ca106 :: ca107 :: ca108 :: ca109 :: ca110 :: ca111 :: ca112 :: ca113 :: ca114 :: ca115 :: ca116 :: ca117 :: ca118 :: ca119 :: ca120 :: ca121 :: ca122 :: ca123 :: ca124 :: ca125 :: ca126 :: ca127 :: ca128 :: ca129 :: ca130 ::
      ca131 :: ca132 :: ca133 :: ca134 :: ca135 :: ca136 :: ca137 :: ca138 :: ca139 :: ca140 :: ca141 :: ca142 :: ca143 :: ca144 :: ca145 :: ca146 :: ca147 :: ca148 :: ca149 :: ca150 :: ca151 :: ca152 :: ca153 :: ca154 :: ca155 ::
      ca156 :: ca157 :: ca158 :: ca159 :: ca160 :: ca161 :: ca162 :: ca163 :: ca164 :: ca165 :: ca166 :: ca167 :: ca168 :: ca169 :: ca170 :: ca171 :: ca172 :: ca173 :: ca174 :: ca175 :: ca176 :: ca177 :: ca178 :: ca179 :: ca180 ::
      ca181 :: ca182 :: ca183 :: ca184 :: ca185 :: ca186 :: ca187 :: ca188 :: ca189 :: ca190 :: ca191 :: ca192 :: ca193 :: ca194 :: ca195 :: ca196 :: ca197 :: ca198 :: ca199 :: ca200 :: ca201 :: ca202 :: ca203 :: ca204 :: ca205 ::
      ca206 :: ca207 :: ca208 :: ca209 :: ca210 :: ca211 :: ca212 :: ca213 :: ca214 :: ca215 :: ca216 :: ca217 :: ca218 :: ca219 :: ca220 :: ca221 :: ca222 :: ca223 :: ca224 :: ca225 :: ca226 :: ca227 :: ca228 :: ca229 :: ca230 ::
      ca231 :: ca232 :: ca233 :: ca234 :: ca235 :: ca236 :: ca237 :: ca238 :: ca239 :: ca240 :: ca241 :: ca242 :: ca243 :: ca244 :: ca245 :: ca246 :: ca247 :: ca248 :: ca249 :: ca250 :: .int .i64 8 :: vb252 :: vb253 :: vb254 ::
      vb255 :: vb256 :: vb257 :: vb258 :: vb259 :: vb260 :: vb261 :: vb262 :: vb263 :: vb264 :: vb265 :: vb266 :: vb267 :: ca268 :: ca269 :: ca270 :: ca271 :: ca272 :: ca273 :: ca274 :: ca275 :: ca276 :: ca277 :: ca278 :: ca279 ::
      ca280 :: ca281 :: ca282 :: ca283 :: ca284 :: ca285 :: ca286 :: []), []⟩ w1)) :
    Code.wp Tryz.prog (Code.loop (loopAt Tryz.f72 7)) (Ends 14 R) ⟨List.toArray (ca0 :: ca1 :: ca2 :: .slice (some ⟨hb, 0, none⟩) 8 8 :: ca4 :: ca5 :: ca6 :: ca7 :: ca8 :: ca9 :: ca10 :: ca11 :: ca12 :: ca13 :: ca14 :: .slice (some ⟨gv, 0, none⟩) 8 cv :: ca16 :: ca17 :: ca18 :: ub19 :: ca20 :: ca21 :: ca22 ::
      ca23 :: ca24 :: ca25 :: ca26 :: ca27 :: ca28 :: ca29 :: ca30 :: ca31 :: ca32 :: ca33 :: ca34 :: ca35 :: ca36 :: ca37 :: ca38 :: ca39 :: ca40 :: ca41 :: ca42 :: ca43 :: ca44 :: ca45 :: ca46 :: ca47 :: ca48 :: ca49 :: ca50 ::
      ca51 :: ca52 :: ca53 :: ca54 :: ca55 :: ca56 :: ca57 :: ca58 :: ca59 :: ca60 :: ca61 :: ca62 :: ca63 :: ca64 :: ca65 :: ca66 :: ca67 :: ca68 :: ca69 :: ca70 :: ca71 :: ca72 :: ca73 :: ca74 :: ca75 :: ca76 :: ca77 :: ca78 ::
      ca79 :: ca80 :: ca81 :: ca82 :: ca83 :: ca84 :: ca85 :: ca86 :: ca87 :: ca88 :: ca89 :: ca90 :: ca91 :: ca92 :: ca93 :: ca94 :: ca95 :: ca96 :: ca97 :: ca98 :: ca99 :: ca100 :: ca101 :: ca102 :: ca103 :: ca104 :: ca105 ::
      ca106 :: ca107 :: ca108 :: ca109 :: ca110 :: ca111 :: ca112 :: ca113 :: ca114 :: ca115 :: ca116 :: ca117 :: ca118 :: ca119 :: ca120 :: ca121 :: ca122 :: ca123 :: ca124 :: ca125 :: ca126 :: ca127 :: ca128 :: ca129 :: ca130 ::
      ca131 :: ca132 :: ca133 :: ca134 :: ca135 :: ca136 :: ca137 :: ca138 :: ca139 :: ca140 :: ca141 :: ca142 :: ca143 :: ca144 :: ca145 :: ca146 :: ca147 :: ca148 :: ca149 :: ca150 :: ca151 :: ca152 :: ca153 :: ca154 :: ca155 ::
      ca156 :: ca157 :: ca158 :: ca159 :: ca160 :: ca161 :: ca162 :: ca163 :: ca164 :: ca165 :: ca166 :: ca167 :: ca168 :: ca169 :: ca170 :: ca171 :: ca172 :: ca173 :: ca174 :: ca175 :: ca176 :: ca177 :: ca178 :: ca179 :: ca180 ::
      ca181 :: ca182 :: ca183 :: ca184 :: ca185 :: ca186 :: ca187 :: ca188 :: ca189 :: ca190 :: ca191 :: ca192 :: ca193 :: ca194 :: ca195 :: ca196 :: ca197 :: ca198 :: ca199 :: ca200 :: ca201 :: ca202 :: ca203 :: ca204 :: ca205 ::
      ca206 :: ca207 :: ca208 :: ca209 :: ca210 :: ca211 :: ca212 :: ca213 :: ca214 :: ca215 :: ca216 :: ca217 :: ca218 :: ca219 :: ca220 :: ca221 :: ca222 :: ca223 :: ca224 :: ca225 :: ca226 :: ca227 :: ca228 :: ca229 :: ca230 ::
      ca231 :: ca232 :: ca233 :: ca234 :: ca235 :: ca236 :: ca237 :: ca238 :: ca239 :: ca240 :: ca241 :: ca242 :: ca243 :: ca244 :: ca245 :: ca246 :: ca247 :: ca248 :: ca249 :: ca250 :: .int .i64 8 :: .int .i64 0 :: ub253 :: ub254 ::
      ub255 :: ub256 :: ub257 :: ub258 :: ub259 :: ub260 :: ub261 :: ub262 :: ub263 :: ub264 :: ub265 :: ub266 :: ub267 :: ca268 :: ca269 :: ca270 :: ca271 :: ca272 :: ca273 :: ca274 :: ca275 :: ca276 :: ca277 :: ca278 :: ca279 ::
      ca280 :: ca281 :: ca282 :: ca283 :: ca284 :: ca285 :: ca286 :: []), []⟩ w := by
  conv => arg 2; arg 1; whnf
  go_loopw [252] (fun i wq => ∃ k : Nat, k ≤ 8 ∧ i = .int .i64 k ∧ OwnN BH 143 .u32 (.slice (some ⟨hb, 0, none⟩) 8 8) (addL h0.list v0.list k) wq ∧ But hb w wq) (fun i _ => 8 - (intOf i).toNat)
  case atStart => exact ⟨0, by omega, rfl, HH.out, But.refl _ _⟩
  case round =>
    clear HH
    obtain ⟨k, hk, rfl, ho, hb2⟩ := hrel
    have HH := Lib.hid ho
    have HB := Lib.hid hb2
    clear ho hb2
    by_cases hlk : k < 8
    · have hlen := addL_len h0.list v0.list k
      rw [S8.list_len] at hlen
      have hV := HV.out.but HB.out (by rintro g hg rfl; exact hne (Option.some.inj hg).symm)
      have c1 := HH.out.cellN hlen.symm k hlk
      have hf := HH.out.frozenAt hlen.symm k
      have c2 := hV.cellN (S8.list_len v0).symm k hlk
      rw [addL_at _ _ _ _ (Nat.le_refl k)] at c1
      have hx := getD_lt HOH.out.lt (by decide) k
      have hy := getD_lt HOV.out.lt (by decide) k
      have HS := Lib.hid (HH.out.stored hlen.symm k ((h0.list.getD k 0 + v0.list.getD k 0) % 4294967296))
      have HA := Lib.hid (show addL h0.list v0.list (k + 1) = (addL h0.list v0.list k).set k ((h0.list.getD k 0 + v0.list.getD k 0) % 4294967296) from rfl)
      generalize h0.list.getD k 0 = x at c1 hx HS HA
      generalize v0.list.getD k 0 = y at c2 hy HS HA
      clear hlen hV
      go_wp2_with fail
      go_region
      go_wp2_with fail
      have hv : (((x + y) % 4294967296 : Nat) : Int) = ((x : Int) + (y : Int)) % 4294967296 := by omega
      exact ⟨⟨k + 1, by omega, by go_num, by
        rw [HA.out]
        have h := HS.out
        rw [hv] at h
        exact h, (HB.out.setCell _ _).drew⟩, by simp [intOf]; omega⟩
    · obtain rfl : k = 8 := by omega
      rw [show ((8 : Nat) : Int) = 8 from rfl]
      go_wp2_with fail
      exact ends_exit (hexit.out _ ⟨by have := HH.out; rwa [addL_eight] at this, HB.out⟩)
set_option maxHeartbeats 4000000 in
set_option maxRecDepth 100000 in
theorem of_loop9 {h0 : S8} {BH hb db : Nat} {w : World}
    {ca0 ca1 ca2 ca4 ca5 ca6 ca7 ca8 ca9 ca10 ca11 ca12 ca13 ca14 ca15 ca16 ca17 ca18 ca19 ub21 ca22 ca23 ca24 ca25 ca26 ca27 ca28 ca29 ca30 ca31
    ca32 ca33 ca34 ca35 ca36 ca37 ca38 ca39 ca40 ca41 ca42 ca43 ca44 ca45 ca46 ca47 ca48 ca49 ca50 ca51 ca52 ca53 ca54 ca55 ca56 ca57 ca58 ca59 ca60 ca61
    ca62 ca63 ca64 ca65 ca66 ca67 ca68 ca69 ca70 ca71 ca72 ca73 ca74 ca75 ca76 ca77 ca78 ca79 ca80 ca81 ca82 ca83 ca84 ca85 ca86 ca87 ca88 ca89 ca90 ca91
    ca92 ca93 ca94 ca95 ca96 ca97 ca98 ca99 ca100 ca101 ca102 ca103 ca104 ca105 ca106 ca107 ca108 ca109 ca110 ca111 ca112 ca113 ca114 ca115 ca116 ca117 ca118 ca119 ca120 ca121
    ca122 ca123 ca124 ca125 ca126 ca127 ca128 ca129 ca130 ca131 ca132 ca133 ca134 ca135 ca136 ca137 ca138 ca139 ca140 ca141 ca142 ca143 ca144 ca145 ca146 ca147 ca148 ca149 ca150 ca151
    ca152 ca153 ca154 ca155 ca156 ca157 ca158 ca159 ca160 ca161 ca162 ca163 ca164 ca165 ca166 ca167 ca168 ca169 ca170 ca171 ca172 ca173 ca174 ca175 ca176 ca177 ca178 ca179 ca180 ca181
    ca182 ca183 ca184 ca185 ca186 ca187 ca188 ca189 ca190 ca191 ca192 ca193 ca194 ca195 ca196 ca197 ca198 ca199 ca200 ca201 ca202 ca203 ca204 ca205 ca206 ca207 ca208 ca209 ca210 ca211
    ca212 ca213 ca214 ca215 ca216 ca217 ca218 ca219 ca220 ca221 ca222 ca223 ca224 ca225 ca226 ca227 ca228 ca229 ca230 ca231 ca232 ca233 ca234 ca235 ca236 ca237 ca238 ca239 ca240 ca241
    ca242 ca243 ca244 ca245 ca246 ca247 ca248 ca249 ca250 ca251 ca252 ca253 ca254 ca255 ca256 ca257 ca258 ca259 ca260 ca261 ca262 ca263 ca264 ca265 ca266 ca267 ub269 ub270 ub271 ub272
    ub273 ub274 ub275 ub276 ub277 ub278 ub279 ub280 ub281 ub282 ub283 ub284 ub285 ca286 : Value}
    (hne : hb ≠ db) (HOH : Hid h0.Ok) (HH : Hid (OwnN BH 143 .u32 (.slice (some ⟨hb, 0, none⟩) 8 8) h0.list w)) (HD : Hid (w.heap[db]? = some (.cells (nums .u8 (outP h0.list 0)).toArray 43 (0, 0))))
    (R : Act → World → Prop)
    (hexit : Hid (∀  (w1 : World), w1.heap[db]? = some (.cells (nums .u8 (outN h0.list)).toArray 43 (0, 0)) ∧ But db w w1 → ∀ {vb21 vb268 vb269 vb270 vb271 vb272 vb273 vb274 vb275 vb276 vb277 vb278 vb279 vb280 vb281 vb282 vb283 vb284 vb285 : Value},
      R ⟨List.toArray (ca0 :: ca1 :: ca2 :: .slice (some ⟨hb, 0, none⟩) 8 8 :: ca4 :: ca5 :: ca6 :: ca7 :: ca8 :: ca9 :: ca10 :: ca11 :: ca12 :: ca13 :: ca14 :: ca15 :: ca16 :: ca17 :: ca18 :: ca19 :: .pointer (some ⟨db, 0, none⟩) :: vb21 :: ca22 ::
      ca23 :: ca24 :: ca25 :: ca26 :: ca27 :: ca28 :: ca29 :: ca30 :: ca31 :: ca32 :: ca33 :: ca34 :: ca35 :: ca36 :: ca37 :: ca38 :: ca39 :: ca40 :: ca41 :: ca42 :: ca43 :: ca44 :: ca45 :: ca46 :: ca47 :: ca48 :: ca49 :: ca50 ::
      ca51 :: ca52 :: ca53 :: ca54 :: ca55 :: ca56 :: ca57 :: ca58 :: ca59 :: ca60 :: ca61 :: ca62 :: ca63 :: ca64 :: ca65 :: ca66 :: ca67 :: ca68 :: ca69 :: ca70 :: ca71 :: ca72 :: ca73 :: ca74 :: ca75 :: ca76 :: ca77 :: ca78 ::
      ca79 :: ca80 :: ca81 :: ca82 :: ca83 :: ca84 :: ca85 :: ca86 :: ca87 :: ca88 :: ca89 :: ca90 :: ca91 :: ca92 :: ca93 :: ca94 :: ca95 :: ca96 :: ca97 :: ca98 :: ca99 :: ca100 :: ca101 :: ca102 :: ca103 :: ca104 :: ca105 ::
      ca106 :: ca107 :: ca108 :: ca109 :: ca110 :: ca111 :: ca112 :: ca113 :: ca114 :: ca115 :: ca116 :: ca117 :: ca118 :: ca119 :: ca120 :: ca121 :: ca122 :: ca123 :: ca124 :: ca125 :: ca126 :: ca127 :: ca128 :: ca129 :: ca130 ::
      ca131 :: ca132 :: ca133 :: ca134 :: ca135 :: ca136 :: ca137 :: ca138 :: ca139 :: ca140 :: ca141 :: ca142 :: ca143 :: ca144 :: ca145 :: ca146 :: ca147 :: ca148 :: ca149 :: ca150 :: ca151 :: ca152 :: ca153 :: ca154 :: ca155 ::
      ca156 :: ca157 :: ca158 :: ca159 :: ca160 :: ca161 :: ca162 :: ca163 :: ca164 :: ca165 :: ca166 :: ca167 :: ca168 :: ca169 :: ca170 :: ca171 :: ca172 :: ca173 :: ca174 :: ca175 :: ca176 :: ca177 :: ca178 :: ca179 :: ca180 ::
      ca181 :: ca182 :: ca183 :: ca184 :: ca185 :: ca186 :: ca187 :: ca188 :: ca189 :: ca190 :: ca191 :: ca192 :: ca193 :: ca194 :: ca195 :: ca196 :: ca197 :: ca198 :: ca199 :: ca200 :: ca201 :: ca202 :: ca203 :: ca204 :: ca205 ::
      ca206 :: ca207 :: ca208 :: ca209 :: ca210 :: ca211 :: ca212 :: ca213 :: ca214 :: ca215 :: ca216 :: ca217 :: ca218 :: ca219 :: ca220 :: ca221 :: ca222 :: ca223 :: ca224 :: ca225 :: ca226 :: ca227 :: ca228 :: ca229 :: ca230 ::
      ca231 :: ca232 :: ca233 :: ca234 :: ca235 :: ca236 :: ca237 :: ca238 :: ca239 :: ca240 :: ca241 :: ca242 :: ca243 :: ca244 :: ca245 :: ca246 :: ca247 :: ca248 :: ca249 :: ca250 :: ca251 :: ca252 :: ca253 :: ca254 :: ca255 ::
      ca256 :: ca257 :: ca258 :: ca259 :: ca260 :: ca261 :: ca262 :: ca263 :: ca264 :: ca265 :: ca266 :: ca267 :: vb268 :: vb269 :: vb270 :: vb271 :: vb272 :: vb273 :: vb274 :: vb275 :: vb276 :: vb277 :: vb278 :: vb279 :: vb280 ::
      vb281 :: vb282 :: vb283 :: vb284 :: vb285 :: ca286 :: []), []⟩ w1)) :
    Code.wp Tryz.prog (Code.loop (loopAt Tryz.f72 8)) (Ends 16 R) ⟨List.toArray (ca0 :: ca1 :: ca2 :: .slice (some ⟨hb, 0, none⟩) 8 8 :: ca4 :: ca5 :: ca6 :: ca7 :: ca8 :: ca9 :: ca10 :: ca11 :: ca12 :: ca13 :: ca14 :: ca15 :: ca16 :: ca17 :: ca18 :: ca19 :: .pointer (some ⟨db, 0, none⟩) :: ub21 :: ca22 ::
      ca23 :: ca24 :: ca25 :: ca26 :: ca27 :: ca28 :: ca29 :: ca30 :: ca31 :: ca32 :: ca33 :: ca34 :: ca35 :: ca36 :: ca37 :: ca38 :: ca39 :: ca40 :: ca41 :: ca42 :: ca43 :: ca44 :: ca45 :: ca46 :: ca47 :: ca48 :: ca49 :: ca50 ::
      ca51 :: ca52 :: ca53 :: ca54 :: ca55 :: ca56 :: ca57 :: ca58 :: ca59 :: ca60 :: ca61 :: ca62 :: ca63 :: ca64 :: ca65 :: ca66 :: ca67 :: ca68 :: ca69 :: ca70 :: ca71 :: ca72 :: ca73 :: ca74 :: ca75 :: ca76 :: ca77 :: ca78 ::
      ca79 :: ca80 :: ca81 :: ca82 :: ca83 :: ca84 :: ca85 :: ca86 :: ca87 :: ca88 :: ca89 :: ca90 :: ca91 :: ca92 :: ca93 :: ca94 :: ca95 :: ca96 :: ca97 :: ca98 :: ca99 :: ca100 :: ca101 :: ca102 :: ca103 :: ca104 :: ca105 ::
      ca106 :: ca107 :: ca108 :: ca109 :: ca110 :: ca111 :: ca112 :: ca113 :: ca114 :: ca115 :: ca116 :: ca117 :: ca118 :: ca119 :: ca120 :: ca121 :: ca122 :: ca123 :: ca124 :: ca125 :: ca126 :: ca127 :: ca128 :: ca129 :: ca130 ::
      ca131 :: ca132 :: ca133 :: ca134 :: ca135 :: ca136 :: ca137 :: ca138 :: ca139 :: ca140 :: ca141 :: ca142 :: ca143 :: ca144 :: ca145 :: ca146 :: ca147 :: ca148 :: ca149 :: ca150 :: ca151 :: ca152 :: ca153 :: ca154 :: ca155 ::
      ca156 :: ca157 :: ca158 :: ca159 :: ca160 :: ca161 :: ca162 :: ca163 :: ca164 :: ca165 :: ca166 :: ca167 :: ca168 :: ca169 :: ca170 :: ca171 :: ca172 :: ca173 :: ca174 :: ca175 :: ca176 :: ca177 :: ca178 :: ca179 :: ca180 ::
      ca181 :: ca182 :: ca183 :: ca184 :: ca185 :: ca186 :: ca187 :: ca188 :: ca189 :: ca190 :: ca191 :: ca192 :: ca193 :: ca194 :: ca195 :: ca196 :: ca197 :: ca198 :: ca199 :: ca200 :: ca201 :: ca202 :: ca203 :: ca204 :: ca205 ::
      ca206 :: ca207 :: ca208 :: ca209 :: ca210 :: ca211 :: ca212 :: ca213 :: ca214 :: ca215 :: ca216 :: ca217 :: ca218 :: ca219 :: ca220 :: ca221 :: ca222 :: ca223 :: ca224 :: ca225 :: ca226 :: ca227 :: ca228 :: ca229 :: ca230 ::
      ca231 :: ca232 :: ca233 :: ca234 :: ca235 :: ca236 :: ca237 :: ca238 :: ca239 :: ca240 :: ca241 :: ca242 :: ca243 :: ca244 :: ca245 :: ca246 :: ca247 :: ca248 :: ca249 :: ca250 :: ca251 :: ca252 :: ca253 :: ca254 :: ca255 ::
      ca256 :: ca257 :: ca258 :: ca259 :: ca260 :: ca261 :: ca262 :: ca263 :: ca264 :: ca265 :: ca266 :: ca267 :: .int .i64 0 :: ub269 :: ub270 :: ub271 :: ub272 :: ub273 :: ub274 :: ub275 :: ub276 :: ub277 :: ub278 :: ub279 ::
      ub280 :: ub281 :: ub282 :: ub283 :: ub284 :: ub285 :: ca286 :: []), []⟩ w := by
  conv => arg 2; arg 1; whnf
  go_loopw [268] (fun i wq => ∃ k : Nat, k ≤ 32 ∧ i = .int .i64 k ∧ wq.heap[db]? = some (.cells (nums .u8 (outP h0.list k)).toArray 43 (0, 0)) ∧ But db w wq) (fun i _ => 32 - (intOf i).toNat)
  case atStart => exact ⟨0, by omega, rfl, HD.out, But.refl _ _⟩
  case round =>
    clear HD
    obtain ⟨k, hk, rfl, ho, hb2⟩ := hrel
    have HD := Lib.hid ho
    have HB := Lib.hid hb2
    clear ho hb2
    by_cases hlk : k < 32
    · have hq := getD_lt HOH.out.lt (by decide) (k / 4)
      have hlen := outP_len h0.list k hk
      have hH := HH.out.but HB.out (by rintro g hg rfl; exact hne (Option.some.inj hg))
      have c1 := hH.cellN (S8.list_len h0).symm (k / 4) (by omega)
      have hf : wr.frozen? ⟨db, k, none⟩ = false := by simp [World.frozen?, HD.out]
      have c2 : wr.cell? ⟨db, k, none⟩ = some (.int .u8 (((outP h0.list k).getD k 0 : Nat) : Int)) := by
        rw [Lib.cell_of_heap HD.out k, List.getElem?_toArray, nums, List.getElem?_map, List.getElem?_eq_getElem (by omega), List.getD_eq_getElem?_getD, List.getElem?_eq_getElem (by omega)]
        rfl
      have HS := Lib.hid (heap_setCell_at (o := k) (v := .int .u8 ((outB h0.list k : Nat) : Int)) HD.out)
      have HO := Lib.hid (show outB h0.list k = h0.list.getD (k / 4) 0 / 2 ^ (24 - 8 * (k % 4)) % 256 from rfl)
      have HP := Lib.hid (outP_set h0.list k hlk)
      generalize h0.list.getD (k / 4) 0 = x at c1 hq HO
      generalize (outP h0.list k).getD k 0 = y at c2
      obtain ⟨j, hj⟩ : ∃ j, j = k / 4 := ⟨_, rfl⟩
      obtain ⟨r, hr⟩ : ∃ r, r = k % 4 := ⟨_, rfl⟩
      rw [← hj] at c1
      have e1 : (k : Int) / 4 = (j : Int) := by omega
      have e2 : (k : Int) % 4 = (r : Int) := by omega
      have b1 : (j : Int) < 8 := by omega
      have b2 : (r : Int) ≤ 3 := by omega
      have b3 : (k : Int) < 32 := by omega
      have HR := Lib.hid hr
      clear hlen hH hj hr
      go_wp2_with fail
      have hv : ((outB h0.list k : Nat) : Int) = (x : Int) / 2 ^ (24 - 8 * r) % 256 := by
        rw [HO.out, HR.out]
        simp
      refine ⟨⟨k + 1, by omega, by go_num, ?_, HB.out.setCell _ _⟩, by simp [intOf]; omega⟩
      have h := HS.out
      rw [List.setIfInBounds_toArray, nums_set, HP.out, hv] at h
      exact h
    · obtain rfl : k = 32 := by omega
      rw [show ((32 : Nat) : Int) = 32 from rfl]
      go_wp2_with fail
      exact ends_exit (hexit.out _ ⟨by have := HD.out; rwa [outP_full] at this, HB.out⟩)
end Go.Proofs.YtpfhlhcnmeodbaaGreatDoor
namespace Go.Proofs.YtpfhlhcnmeodbaaGreatDoor
open Go.RowKit
set_option maxHeartbeats 4000000 in
set_option maxRecDepth 100000 in
theorem of_loop3 {p : List Nat} {g3 cap3 : Nat} {w wz : World}
    {ca0 ca1 ca2 ca6 ca7 ub9 ub10 ub11 ub12 ub13 ub14 ub15 ub16 ub17 ub18 ub19 ca20 ca21 ca22 ca23 ca24 ca25 ca26 ca27 ca28 ca29 ca30 ca31 ca32 ca33
    ca34 ca35 ca36 ca37 ca38 ca39 ca40 ca41 ca42 ca43 ca44 ca45 ca46 ca47 ca48 ca49 ca50 ca51 ca52 ub53 ub54 ub55 ub56 ub57 ub58 ub59 ub60 ub61 ub62 ub63
    ub64 ub65 ub66 ub67 ub68 ub69 ub70 ub71 ub72 ub73 ub74 ub75 ub76 ub77 ub78 ub79 ub80 ub81 ub82 ub83 ub84 ub85 ub86 ub87 ub88 ub89 ub90 ub91 ub92 ub93
    ub94 ub95 ub96 ub97 ub98 ub99 ub100 ub101 ub102 ub103 ub104 ub105 ub106 ub107 ub108 ub109 ub110 ub111 ub112 ub113 ub114 ub115 ub116 ub117 ub118 ub119 ub120 ub121 ub122 ub123
    ub124 ub125 ub126 ub127 ub128 ub129 ub130 ub131 ub132 ub133 ub134 ub135 ub136 ub137 ub138 ub139 ub140 ub141 ub142 ub143 ub144 ub145 ub146 ub147 ub148 ub149 ub150 ub151 ub152 ub153
    ub154 ub155 ub156 ub157 ub158 ub159 ub160 ub161 ub162 ub163 ub164 ub165 ub166 ub167 ub168 ub169 ub170 ub171 ub172 ub173 ub174 ub175 ub176 ub177 ub178 ub179 ub180 ub181 ub182 ub183
    ub184 ub185 ub186 ub187 ub188 ub189 ub190 ub191 ub192 ub193 ub194 ub195 ub196 ub197 ub198 ub199 ub200 ub201 ub202 ub203 ub204 ub205 ub206 ub207 ub208 ub209 ub210 ub211 ub212 ub213
    ub214 ub215 ub216 ub217 ub218 ub219 ub220 ub221 ub222 ub223 ub224 ub225 ub226 ub227 ub228 ub229 ub230 ub231 ub232 ub233 ub234 ub235 ub236 ub237 ub238 ub239 ub240 ub241 ub242 ub243
    ub244 ub245 ub246 ub247 ub248 ub249 ub250 ub251 ub252 ub253 ub254 ub255 ub256 ub257 ub258 ub259 ub260 ub261 ub262 ub263 ub264 ub265 ub266 ub267 ca268 ca269 ca270 ca271 ca272 ca273
    ca274 ca275 ca276 ca277 ca278 ca279 ca280 ca281 ca282 ca283 ca284 ca285 ca286 : Value}
    (hpl3 : p.length ≤ 140737488350100) (HPL : Hid (p.length % 64 = 0)) (HP : Hid (∀ x ∈ p, x < 256)) (HST : Hid (OfSt w (.slice (some ⟨g3, 0, none⟩) p.length cap3) p (blocks p 0) wz))
    (R : Act → World → Prop)
    (hexit : Hid (∀  (w1 : World), OfSt w (.slice (some ⟨g3, 0, none⟩) p.length cap3) p (blocks p (p.length / 64)) w1 → ∀ {vb8 vb9 vb10 vb11 vb12 vb13 vb14 vb15 vb16 vb17 vb18 vb19 vb53 vb54 vb55 vb56 vb57 vb58 vb59 vb60 vb61 vb62 vb63 vb64 vb65 vb66 vb67 vb68 vb69 vb70
    vb71 vb72 vb73 vb74 vb75 vb76 vb77 vb78 vb79 vb80 vb81 vb82 vb83 vb84 vb85 vb86 vb87 vb88 vb89 vb90 vb91 vb92 vb93 vb94 vb95 vb96 vb97 vb98 vb99 vb100
    vb101 vb102 vb103 vb104 vb105 vb106 vb107 vb108 vb109 vb110 vb111 vb112 vb113 vb114 vb115 vb116 vb117 vb118 vb119 vb120 vb121 vb122 vb123 vb124 vb125 vb126 vb127 vb128 vb129 vb130
    vb131 vb132 vb133 vb134 vb135 vb136 vb137 vb138 vb139 vb140 vb141 vb142 vb143 vb144 vb145 vb146 vb147 vb148 vb149 vb150 vb151 vb152 vb153 vb154 vb155 vb156 vb157 vb158 vb159 vb160
    vb161 vb162 vb163 vb164 vb165 vb166 vb167 vb168 vb169 vb170 vb171 vb172 vb173 vb174 vb175 vb176 vb177 vb178 vb179 vb180 vb181 vb182 vb183 vb184 vb185 vb186 vb187 vb188 vb189 vb190
    vb191 vb192 vb193 vb194 vb195 vb196 vb197 vb198 vb199 vb200 vb201 vb202 vb203 vb204 vb205 vb206 vb207 vb208 vb209 vb210 vb211 vb212 vb213 vb214 vb215 vb216 vb217 vb218 vb219 vb220
    vb221 vb222 vb223 vb224 vb225 vb226 vb227 vb228 vb229 vb230 vb231 vb232 vb233 vb234 vb235 vb236 vb237 vb238 vb239 vb240 vb241 vb242 vb243 vb244 vb245 vb246 vb247 vb248 vb249 vb250
    vb251 vb252 vb253 vb254 vb255 vb256 vb257 vb258 vb259 vb260 vb261 vb262 vb263 vb264 vb265 vb266 vb267 : Value},
      R ⟨List.toArray (ca0 :: ca1 :: ca2 :: .slice (some ⟨w.heap.size + 1, 0, none⟩) 8 8 :: .slice (some ⟨w.heap.size + 1 + 1, 0, none⟩) 64 64 :: .slice (some ⟨g3, 0, none⟩) p.length cap3 :: ca6 :: ca7 :: vb8 :: vb9 :: vb10 :: vb11 :: vb12 :: vb13 ::
      vb14 :: vb15 :: vb16 :: vb17 :: vb18 :: vb19 :: ca20 :: ca21 :: ca22 :: ca23 :: ca24 :: ca25 :: ca26 :: ca27 :: ca28 :: ca29 :: ca30 :: ca31 :: ca32 :: ca33 :: ca34 :: ca35 :: ca36 :: ca37 :: ca38 :: ca39 :: ca40 :: ca41 ::
      ca42 :: ca43 :: ca44 :: ca45 :: ca46 :: ca47 :: ca48 :: ca49 :: ca50 :: ca51 :: ca52 :: vb53 :: vb54 :: vb55 :: vb56 :: vb57 :: vb58 :: vb59 :: vb60 :: vb61 :: vb62 :: vb63 :: vb64 :: vb65 :: vb66 :: vb67 :: vb68 :: vb69 ::
      vb70 :: vb71 :: vb72 :: vb73 :: vb74 :: vb75 :: vb76 :: vb77 :: vb78 :: vb79 :: vb80 :: vb81 :: vb82 :: vb83 :: vb84 :: vb85 :: vb86 :: vb87 :: vb88 :: vb89 :: vb90 :: vb91 :: vb92 :: vb93 :: vb94 :: vb95 :: vb96 :: vb97 ::
      vb98 :: vb99 :: vb100 :: vb101 :: vb102 :: vb103 :: vb104 :: vb105 :: vb106 :: vb107 :: vb108 :: vb109 :: vb110 :: vb111 :: vb112 :: vb113 :: vb114 :: vb115 :: vb116 :: vb117 :: vb118 :: vb119 :: vb120 :: vb121 :: vb122 ::
      vb123 :: vb124 :: vb125 :: vb126 :: vb127 :: vb128 :: vb129 :: vb130 :: vb131 :: vb132 :: vb133 :: vb134 :: vb135 :: vb136 :: vb137 :: vb138 :: vb139 :: vb140 :: vb141 :: vb142 :: vb143 :: vb144 :: vb145 :: vb146 :: vb147 ::
      vb148 :: vb149 :: vb150 :: vb151 :: vb152 :: vb153 :: vb154 :: vb155 :: vb156 :: vb157 :: vb158 :: vb159 :: vb160 :: vb161 :: vb162 :: vb163 :: vb164 :: vb165 :: vb166 :: vb167 :: vb168 :: vb169 :: vb170 :: vb171 :: vb172 ::
      vb173 :: vb174 :: vb175 :: vb176 :: vb177 :: vb178 :: vb179 :: vb180 :: vb181 :: vb182 :: vb183 :: vb184 :: vb185 :: vb186 :: vb187 :: vb188 :: vb189 :: vb190 :: vb191 :: vb192 :: vb193 :: vb194 :: vb195 :: vb196 :: vb197 ::
      vb198 :: vb199 :: vb200 :: vb201 :: vb202 :: vb203 :: vb204 :: vb205 :: vb206 :: vb207 :: vb208 :: vb209 :: vb210 :: vb211 :: vb212 :: vb213 :: vb214 :: vb215 :: vb216 :: vb217 :: vb218 :: vb219 :: vb220 :: vb221 :: vb222 ::
      vb223 :: vb224 :: vb225 :: vb226 :: vb227 :: vb228 :: vb229 :: vb230 :: vb231 :: vb232 :: vb233 :: vb234 :: vb235 :: vb236 :: vb237 :: vb238 :: vb239 :: vb240 :: vb241 :: vb242 :: vb243 :: vb244 :: vb245 :: vb246 :: vb247 ::
      vb248 :: vb249 :: vb250 :: vb251 :: vb252 :: vb253 :: vb254 :: vb255 :: vb256 :: vb257 :: vb258 :: vb259 :: vb260 :: vb261 :: vb262 :: vb263 :: vb264 :: vb265 :: vb266 :: vb267 :: ca268 :: ca269 :: ca270 :: ca271 :: ca272 ::
      ca273 :: ca274 :: ca275 :: ca276 :: ca277 :: ca278 :: ca279 :: ca280 :: ca281 :: ca282 :: ca283 :: ca284 :: ca285 :: ca286 :: []), []⟩ w1)) :
    Code.wp Tryz.prog (Code.loop (loopAt Tryz.f72 2)) (Ends 4 R) ⟨List.toArray (ca0 :: ca1 :: ca2 :: .slice (some ⟨w.heap.size + 1, 0, none⟩) 8 8 :: .slice (some ⟨w.heap.size + 1 + 1, 0, none⟩) 64 64 :: .slice (some ⟨g3, 0, none⟩) p.length cap3 :: ca6 :: ca7 :: .int .i64 0 :: ub9 :: ub10 :: ub11 :: ub12 ::
      ub13 :: ub14 :: ub15 :: ub16 :: ub17 :: ub18 :: ub19 :: ca20 :: ca21 :: ca22 :: ca23 :: ca24 :: ca25 :: ca26 :: ca27 :: ca28 :: ca29 :: ca30 :: ca31 :: ca32 :: ca33 :: ca34 :: ca35 :: ca36 :: ca37 :: ca38 :: ca39 :: ca40 ::
      ca41 :: ca42 :: ca43 :: ca44 :: ca45 :: ca46 :: ca47 :: ca48 :: ca49 :: ca50 :: ca51 :: ca52 :: ub53 :: ub54 :: ub55 :: ub56 :: ub57 :: ub58 :: ub59 :: ub60 :: ub61 :: ub62 :: ub63 :: ub64 :: ub65 :: ub66 :: ub67 :: ub68 ::
      ub69 :: ub70 :: ub71 :: ub72 :: ub73 :: ub74 :: ub75 :: ub76 :: ub77 :: ub78 :: ub79 :: ub80 :: ub81 :: ub82 :: ub83 :: ub84 :: ub85 :: ub86 :: ub87 :: ub88 :: ub89 :: ub90 :: ub91 :: ub92 :: ub93 :: ub94 :: ub95 :: ub96 ::
      ub97 :: ub98 :: ub99 :: ub100 :: ub101 :: ub102 :: ub103 :: ub104 :: ub105 :: ub106 :: ub107 :: ub108 :: ub109 :: ub110 :: ub111 :: ub112 :: ub113 :: ub114 :: ub115 :: ub116 :: ub117 :: ub118 :: ub119 :: ub120 :: ub121 ::
      ub122 :: ub123 :: ub124 :: ub125 :: ub126 :: ub127 :: ub128 :: ub129 :: ub130 :: ub131 :: ub132 :: ub133 :: ub134 :: ub135 :: ub136 :: ub137 :: ub138 :: ub139 :: ub140 :: ub141 :: ub142 :: ub143 :: ub144 :: ub145 :: ub146 ::
      ub147 :: ub148 :: ub149 :: ub150 :: ub151 :: ub152 :: ub153 :: ub154 :: ub155 :: ub156 :: ub157 :: ub158 :: ub159 :: ub160 :: ub161 :: ub162 :: ub163 :: ub164 :: ub165 :: ub166 :: ub167 :: ub168 :: ub169 :: ub170 :: ub171 ::
      ub172 :: ub173 :: ub174 :: ub175 :: ub176 :: ub177 :: ub178 :: ub179 :: ub180 :: ub181 :: ub182 :: ub183 :: ub184 :: ub185 :: ub186 :: ub187 :: ub188 :: ub189 :: ub190 :: ub191 :: ub192 :: ub193 :: ub194 :: ub195 :: ub196 ::
      ub197 :: ub198 :: ub199 :: ub200 :: ub201 :: ub202 :: ub203 :: ub204 :: ub205 :: ub206 :: ub207 :: ub208 :: ub209 :: ub210 :: ub211 :: ub212 :: ub213 :: ub214 :: ub215 :: ub216 :: ub217 :: ub218 :: ub219 :: ub220 :: ub221 ::
      ub222 :: ub223 :: ub224 :: ub225 :: ub226 :: ub227 :: ub228 :: ub229 :: ub230 :: ub231 :: ub232 :: ub233 :: ub234 :: ub235 :: ub236 :: ub237 :: ub238 :: ub239 :: ub240 :: ub241 :: ub242 :: ub243 :: ub244 :: ub245 :: ub246 ::
      ub247 :: ub248 :: ub249 :: ub250 :: ub251 :: ub252 :: ub253 :: ub254 :: ub255 :: ub256 :: ub257 :: ub258 :: ub259 :: ub260 :: ub261 :: ub262 :: ub263 :: ub264 :: ub265 :: ub266 :: ub267 :: ca268 :: ca269 :: ca270 :: ca271 ::
      ca272 :: ca273 :: ca274 :: ca275 :: ca276 :: ca277 :: ca278 :: ca279 :: ca280 :: ca281 :: ca282 :: ca283 :: ca284 :: ca285 :: ca286 :: []), []⟩ wz := by
  conv => arg 2; arg 1; whnf
  obtain ⟨i1, hj, hy0, hy1, hy2⟩ := info_parts Tryz.infoU32
  go_loopw [8] (fun a wq => ∃ m : Nat, m ≤ p.length / 64 ∧ a = .int .i64 ((64 * m : Nat) : Int) ∧ OfSt w (.slice (some ⟨g3, 0, none⟩) p.length cap3) p (blocks p m) wq) (fun a _ => p.length - (intOf a).toNat)
  case atStart => exact ⟨0, by omega, rfl, HST.out⟩
  case round =>
    clear HST
    obtain ⟨m, hm2, rfl, hst⟩ := hrel
    obtain ⟨w4, hw4⟩ : ∃ x, x = wr := ⟨_, rfl⟩
    subst hw4
    have HST := Lib.hid hst
    clear hst
    by_cases hlt : m < p.length / 64
    · have hlt2 : 64 * m < p.length := by omega
      have hm64 : 64 * m + 64 ≤ p.length := by omega
      have HBY := Lib.hid (show ∀ j, wAt p m j < 256 from fun j => getD_lt HP.out (by decide) _)
      go_wp2_with (at_make; refine wpList_make_full _ rfl _ _ 139 rfl w4.heap.size 143 i1 (.int .u32 0) 1 Tryz.underlying139 hj hy0 hy1 .i64 .i64 64 64 64 rfl rfl rfl rfl (by rw [hy2]; omega) (by unfold maxLen; omega) (Nat.le_refl _) ?_)
      intro w5 ho hgrow
      rw [toList_madeCells_one] at ho
      have HW := Lib.hid (show OwnN w4.heap.size 143 .u32 (.slice (some ⟨w4.heap.size, 0, none⟩) 64 64) (arrW (wAt p m) 0) w5 from ho)
      have HB5 := Lib.hid ((Below.refl w4.heap.size w4).grown hgrow (Nat.le_refl _) (by intro g hg; cases hg))
      clear ho hgrow
      go_wp2_with fail
      refine wp_ends (of_loop4 hpl3 hm64 (Lib.hid HST.out.b) HBY HW HB5 _ (Lib.hid ?_))
      rintro w6 ⟨ho, hb⟩
      intros
      clear HW HB5
      have HW := Lib.hid ho
      have HB5 := Lib.hid hb
      clear ho hb
      go_wp2_with fail
      refine wp_ends (of_loop6 HBY HW HB5 _ (Lib.hid ?_))
      rintro w6 ⟨ho, hb⟩
      intros
      clear HW HB5
      have HW := Lib.hid ho
      have HB5 := Lib.hid hb
      clear ho hb
      have hsz := HB5.out.size
      have HST6 := Lib.hid (HST.out.below HB5.out)
      have hcs := HST6.out.h.at
      have hr1 := (HST6.out.h.lt _ rfl).2
      go_wp2_with (at_builtin; refine wpList_append_own_at _ rfl _ _ 139 rfl w6.heap.size 143 i1 (.int .u32 0) 1 4 Tryz.underlying139 hj hy0 hy1 hy2 rfl (by decide) _ _ _ rfl (World.ownsRow_lit w6 #[] 0 (Nat.le_refl _) (by unfold maxLen; omega) rfl) ⟨w.heap.size + 1, 0, none⟩ 8 8 (nums .u32 (blocks p m).list) rfl rfl ?c1 ?c2 ?c3 ?c4 ?c5 ?_)
      case c1 =>
        intro j u h
        have := World.ownsRow.cells HST6.out.h rfl j u h
        rw [Addr.add_lit, Nat.zero_add] at this
        exact this
      case c2 => exact nums_one _ _
      case c3 => unfold maxLen; omega
      try case c4 => omega
      try case c5 => simp
      intro v7 w7 ho hgrow _ _
      have HV := Lib.hid (show OwnN w6.heap.size 143 .u32 v7 (blocks p m).list w7 from ho)
      have HB7 := Lib.hid (((Below.refl w6.heap.size w6).alloc (Nat.le_refl _) _).grown hgrow (by simp) (by intro g hg; simp [Value.ownBlock] at hg; omega))
      clear ho hgrow hcs
      go_wp2_with fail
      refine wp_ends (of_loop7 HBY (Lib.hid (blocks_ok p m)) (Lib.hid HST6.out.k) HW HV HB7 _ (Lib.hid ?_))
      rintro v8 w8 ⟨ho, hb⟩
      intros
      clear HV HB7 HW HB5 HBY
      have HST8 := Lib.hid (HST6.out.below hb)
      obtain ⟨gv, cv, rfl, hgv, hgv2⟩ := ho.formB (Nat.zero_lt_succ 7)
      rw [S8.list_len]
      have HV := Lib.hid ho
      clear ho hb HST6
      have hne : w.heap.size + 1 ≠ gv := by omega
      go_wp2_with fail
      refine wp_ends (of_loop8 hne (Lib.hid (blocks_ok p m)) (Lib.hid (rl_ok (blocks_ok p m) _ _)) (Lib.hid HST8.out.h) HV _ (Lib.hid ?_))
      rintro w9 ⟨ho, hb⟩
      intros
      have HST9 := Lib.hid (show OfSt w (.slice (some ⟨g3, 0, none⟩) p.length cap3) p (blocks p (m + 1)) w9 from HST8.out.next hb ho)
      clear ho hb HST8 HV
      go_wp2_with fail
      exact ⟨⟨m + 1, by omega, by go_num, HST9.out⟩, by simp [intOf]; omega⟩
    · obtain rfl : m = p.length / 64 := by omega
      have hge : ¬ 64 * (p.length / 64) < p.length := by have := HPL.out; omega
      go_wp2_with fail
      exact ends_exit (hexit.out _ HST.out)
end Go.Proofs.YtpfhlhcnmeodbaaGreatDoor
namespace Go.Proofs.YtpfhlhcnmeodbaaGreatDoor
open Go.RowKit
set_option maxHeartbeats 4000000 in
set_option maxRecDepth 100000 in
theorem of_any (s : List UInt8) (w : World) (hm : s.length ≤ 140737488350000) :
    Calls Tryz.prog 72 #[.string ⟨s.toArray⟩] w fun e w' => e = .returned (.agg (nums .u8 (shaN s)).toArray) ∧ Below w.heap.size w w' := by
  obtain ⟨i0, hi, hz0, hz1, hz2⟩ := info_parts Tryz.infoU8
  go_enter Tryz.func72, Tryz.ntmps72
  go_wp2_with fail
  refine (known_any _).mono ?_
  rintro e w1 ⟨rfl, h1, h2, hb⟩
  have HR := Lib.hid ((hb.block w.heap.size (by simp)).trans (heap_alloc_new w _))
  have HB := Lib.hid (((Below.refl w.heap.size w).alloc (Nat.le_refl _) _).trans (hb.mono (by simp)))
  simp at h1 h2
  have H1 := Lib.hid h1
  have H2 := Lib.hid h2
  clear h1 h2 hb
  go_wp2_with fail
  obtain ⟨g, cap, w2, hrun, ho, hb⟩ := conv_bytes s w1 (by unfold maxLen; omega)
  rw [hrun]
  simp only [Result.andThen]
  rw [Oper.upon_value]
  have HO := Lib.hid ho
  have HB2 := Lib.hid hb
  clear hrun ho hb
  go_wp2_with (at_builtin; refine wpList_append_tail rfl _ _ 97 rfl w1.heap.size 5 i0 (.int .u8 0) 1 .u8 Tryz.underlying97 hi hz0 hz1 hz2 rfl _ _ rfl (HO.out.alloc _) ⟨w2.heap.size, 0, none⟩ 1 128 rfl (cell_one_new _ _ _) ?c3 ?c4 ?c5 ?_)
  case c3 => rw [byteNs_len]; unfold maxLen; omega
  case c4 => rw [byteNs_len]; omega
  case c5 => have := HB2.out.size; simp; omega
  intro v3 w3 ho hgrow _
  have HB3 := Lib.hid (tail_pushed HB2.out HB2.out.size HO.out hgrow)
  have HO3 := Lib.hid (show OwnT w1.heap.size 5 .u8 v3 (zerosL s 0) w3 by unfold zerosL; rw [List.replicate_zero, List.append_nil]; exact ho)
  clear HO HB2 ho hgrow
  go_wp2_with fail
  refine wp_ends (of_loop1 hm HO3 HB3 _ (Lib.hid ?_))
  rintro v4 w4 ⟨ho, hb⟩
  intros
  clear HO3 HB3
  have HO3 := Lib.hid ho
  have HB3 := Lib.hid hb
  clear ho hb
  have hz : zerosN s.length ≤ 63 := by unfold zerosN; omega
  have HN := Lib.hid (padN_split s)
  obtain ⟨z, hzn⟩ : ∃ z, z = zerosN s.length := ⟨_, rfl⟩
  rw [← hzn] at hz HN HO3
  obtain ⟨N, hN⟩ : ∃ N, N = s.length * 8 := ⟨_, rfl⟩
  rw [← hN] at HN
  have HNN := Lib.hid (show N < 18446744073709551616 by omega)
  have hN2 : (s.length : Int) * 8 = (N : Int) := by omega
  clear hzn hN
  go_wp2_with fail
  clear hN2
  refine wp_ends (of_loop2 hm hz HNN HO3 HB3 _ (Lib.hid ?_))
  rintro v5 w5 ⟨ho, hb⟩
  intros
  rw [← HN.out] at ho
  clear HO3 HB3 HN HNN hz
  have hpl := padN_mod s
  have hlt2 := padN_lt s
  have hpl2 := padSh_len s
  have hz : zerosN s.length ≤ 63 := by unfold zerosN; omega
  have HP := Lib.hid hlt2
  have HPL := Lib.hid hpl
  have HF := Lib.hid (show outN (blocks (padSh s) ((padSh s).length / 64)).list = shaN s from rfl)
  generalize padSh s = p at ho HP HPL hpl2 HF
  have hpl3 : p.length ≤ 140737488350100 := by omega
  clear hlt2 hpl hpl2 hz
  obtain ⟨g3, cap3, rfl⟩ := ho.form
  have hr := (H2.out.lt (w.heap.size + 1 + 1) rfl).2
  have HST := Lib.hid (show OfSt w (.slice (some ⟨g3, 0, none⟩) p.length cap3) p (blocks p 0) w5 from
    ⟨H1.out.below hb, H2.out.below hb, ho.mono (by omega), (hb.block _ (by omega)).trans HR.out, HB.out.trans (hb.mono HB.out.size)⟩)
  clear H1 H2 HR HB hr ho hb
  go_wp2_with fail
  refine wp_ends (of_loop3 hpl3 HPL HP HST _ (Lib.hid ?_))
  rintro w6 hst
  intros
  clear HST
  have hsz := hst.bel.size
  have hl := (hst.h.lt _ rfl).2
  have HST := Lib.hid hst
  clear hst
  go_wp2_with fail
  refine wp_ends (of_loop9 (h0 := blocks p (p.length / 64)) (BH := w.heap.size + 1) (db := w6.heap.size) ?hne (Lib.hid (blocks_ok _ _)) (Lib.hid (HST.out.h.alloc _)) (Lib.hid ?hd) _ (Lib.hid ?_))
  case hne => omega
  case hd => exact (heap_alloc_new w6 _).trans rfl
  rintro w7 ⟨hd, hb⟩
  intros
  rw [HF.out] at hd
  have HD := Lib.hid hd
  have hr1 := (hb.block w.heap.size (by simp; omega) (by omega)).trans ((heap_alloc_old w6 _ (by omega)).trans HST.out.r)
  have HB := Lib.hid (But.toBelow (HST.out.bel.alloc hsz _) hb hsz (by simp; omega))
  have HR1 := Lib.hid hr1
  clear hb hd hr1 HST
  have hI : (Tryz.prog.info? 43).map (·.size) = some (nums .u8 (shaN s)).toArray.size := by rw [nums_size, shaN_len]; exact Tryz.infoId
  have HI := Lib.hid hI
  have HL := Lib.hid (show (nums .u8 (List.replicate 32 0)).toArray.size = (nums .u8 (shaN s)).toArray.size by rw [nums_size, nums_size, shaN_len, List.length_replicate])
  clear hI
  go_wp2_with (first | (refine wpList_load_row rfl 43 _ rfl w6.heap.size rfl 43 _ _ _ HD.out Tryz.underlying43 rfl HI.out ?_) | (refine wpList_store_rowTo rfl 43 _ _ rfl rfl w.heap.size (nums .u8 (shaN s)).toArray rfl rfl 43 _ HR1.out HI.out HL.out (nums_all _ _) ?_))
  exact bodyPost_ret (results_cell_row rfl _ _ w.heap.size 43 _ (0, 0) _ rfl (setRow_heap _ _ _ _ _ _ HR1.out) Tryz.underlying43 rfl HI.out) rfl ⟨rfl, below_setRow HB.out (Nat.le_refl _) _⟩
end Go.Proofs.YtpfhlhcnmeodbaaGreatDoor
