/- DERIVED of the program: FabricRoom answers true. Own work. -/
import Derived.Test.YtmgmjklnibmacabDoorFbL
namespace Go.Proofs.YtmgmjklnibmacabDoor
open Go.RowKit Go.Extern.Stop Go.Stop Go.Extern

def kdR : Nat → Int
  | 0 => 1
  | 1 => 6
  | 2 => 12
  | _ => 15
def shR : Nat → Bool
  | 0 => true
  | 1 => false
  | 2 => true
  | _ => false
def plR (c : Nat) : Nat → Nat
  | 0 => 0
  | 1 => 2 + 2 * c
  | 2 => 1
  | _ => 3 + 2 * c
def bsR (k n : Nat) : Nat → Nat
  | 0 => 0
  | 1 => k
  | 2 => k + k * n
  | 3 => k + k * n + k
  | _ => k + k * n + k + k * n
theorem four_cases {a : Nat} (h : a < 4) : a = 0 ∨ a = 1 ∨ a = 2 ∨ a = 3 := by omega
theorem okR {n a c : Nat} (ha : a < 4) (hc : c < n) (h64 : n ≤ 64) : okM n (ofM (kdR a) (c : Int)) = true := by
  rcases four_cases ha with rfl | rfl | rfl | rfl <;> exact ofM_ok (by simp [kdR]) (by omega) (by omega) h64
theorem thR {n a c : Nat} (ha : a < 4) (hc : c < n) : thM n (ofM (kdR a) (c : Int)) = plR c a := by
  have h1 := plN_1 (cs := n) (c := (c : Int)) (by omega)
  have h3 := plN_3 (cs := n) (c := (c : Int)) (by omega)
  rw [Int.toNat_natCast] at h1 h3
  rcases four_cases ha with rfl | rfl | rfl | rfl
  · exact thM_of rfl
  · exact thM_of h1
  · exact thM_of rfl
  · exact thM_of h3
theorem inR {a c : Nat} (ha : a < 4) (hc : c ≤ 64) : InB [ofM (kdR a) (c : Int)] := inB1 (by rcases four_cases ha with rfl | rfl | rfl | rfl <;> exact ofM_in _ _ (by simp [kdR]) (by omega) (by omega))
/-- In the midst of a kind, of a core. -/
structure RInv (k n a c i : Nat) (P : List (List M13)) : Prop where
  len : P.length = 2 + 2 * n
  cur : lenF P (plR c a) = if shR a = true ∧ 0 < c then k else i
  rest : ∀ a' c', a' < 4 → c' < n → (a < a' ∨ (a = a' ∧ c < c' ∧ shR a = false)) → lenF P (plR c' a') = 0
  all : allF P = bsR k n a + (if shR a = true then (if c = 0 then i else k) else k * c + i)
/-- Ahead of a kind. -/
structure RAt (k n a : Nat) (P : List (List M13)) : Prop where
  len : P.length = 2 + 2 * n
  rest : ∀ a' c', a' < 4 → c' < n → a ≤ a' → lenF P (plR c' a') = 0
  all : allF P = bsR k n a
theorem RAt.start (k n : Nat) : RAt k n 0 (noneF n) := ⟨noneF_len n, fun _ _ _ _ _ => lenF_none _ _, allF_none n⟩
theorem RAt.in {k n a : Nat} {P : List (List M13)} (h : RAt k n a P) (ha : a < 4) (hn : 0 < n) : RInv k n a 0 0 P := by
  refine ⟨h.len, ?_, fun a' c' h1 h2 h3 => h.rest a' c' h1 h2 (by omega), ?_⟩
  · rw [if_neg (by omega)]; exact h.rest a 0 ha hn (Nat.le_refl _)
  · rw [h.all]
    split <;> simp
theorem RInv.next {k n a c : Nat} {P : List (List M13)} (h : RInv k n a c k P) (ha : a < 4) (hc : c + 1 < n) : RInv k n a (c + 1) 0 P := by
  have h1 := h.cur
  have h2 := h.rest a (c + 1) ha hc
  have h3 := h.all
  refine ⟨h.len, ?_, fun a' c' g1 g2 g3 => h.rest a' c' g1 g2 (g3.imp id (fun g => ⟨g.1, by omega, g.2.2⟩)), ?_⟩
  · rcases four_cases ha with rfl | rfl | rfl | rfl
    · simp only [shR, plR, true_and] at *; split at h1 <;> simp [h1]
    · simp only [shR, plR] at *; simp; exact h2 (by simp)
    · simp only [shR, plR, true_and] at *; split at h1 <;> simp [h1]
    · simp only [shR, plR] at *; simp; exact h2 (by simp)
  · rw [h3, Nat.mul_succ]
    rcases four_cases ha with rfl | rfl | rfl | rfl <;> simp [shR]
theorem RInv.out {k n a c : Nat} {P : List (List M13)} (h : RInv k n a c k P) (ha : a < 4) (hc : c + 1 = n) : RAt k n (a + 1) P := by
  refine ⟨h.len, fun a' c' g1 g2 g3 => h.rest a' c' g1 g2 (.inl (by omega)), ?_⟩
  have h3 := h.all
  rw [h3]
  subst hc
  rcases four_cases ha with rfl | rfl | rfl | rfl <;> simp [shR, bsR, Nat.mul_succ]
  all_goals omega
theorem plR_ne {a c a' c' : Nat} (ha : a < 4) (ha' : a' < 4) (h : a < a' ∨ (a = a' ∧ c < c' ∧ shR a = false)) : plR c a ≠ plR c' a' := by
  rcases four_cases ha with rfl | rfl | rfl | rfl <;> rcases four_cases ha' with rfl | rfl | rfl | rfl <;> simp [plR, shR] at * <;> omega
theorem RInv.put {k n a c i : Nat} {P : List (List M13)} (h : RInv k n a c i P) (ha : a < 4) (hc : c < n) (h64 : n ≤ 64) (hs : ¬ (shR a = true ∧ 0 < c)) : RInv k n a c (i + 1) (putF n P (ofM (kdR a) (c : Int))) := by
  have hth := thR (n := n) ha hc
  have hlt : thM n (ofM (kdR a) (c : Int)) < P.length := by rw [h.len]; exact (okM_th (okR ha hc h64)).2
  have h1 := h.cur
  have h3 := h.all
  rw [if_neg hs] at h1
  refine ⟨by rw [len_putF]; exact h.len, ?_, fun a' c' g1 g2 g3 => ?_, ?_⟩
  · rw [if_neg hs, lenF_putF hlt, hth, if_pos rfl, h1]
  · rw [lenF_putF hlt, hth, if_neg (plR_ne ha g1 g3), h.rest a' c' g1 g2 g3]
  · rw [allF_put hlt, h3]
    split
    · rename_i h4
      rw [if_pos (by rcases Nat.eq_zero_or_pos c with h5 | h5; (· exact h5); exact absurd ⟨h4, h5⟩ hs)]
      rw [if_pos (by rcases Nat.eq_zero_or_pos c with h5 | h5; (· exact h5); exact absurd ⟨h4, h5⟩ hs)]
      omega
    · omega
theorem RInv.same {k n a c i : Nat} {P : List (List M13)} (h : RInv k n a c i P) (hs : shR a = true ∧ 0 < c) : RInv k n a c (i + 1) P := by
  have h1 := h.cur
  have h3 := h.all
  rw [if_pos hs] at h1
  rw [if_pos hs.1, if_neg (by omega)] at h3
  refine ⟨h.len, by rw [if_pos hs]; exact h1, h.rest, ?_⟩
  rw [if_pos hs.1, if_neg (by omega)]
  exact h3

set_option maxHeartbeats 3200000 in
set_option maxRecDepth 20000 in
theorem fabricRoom_any (w : World) (sa : Nat → Addr) (hE : Env10 w sa) (n0 n1 : Int) : Calls Tryd.prog 3 #[.int .i64 n0, .int .i64 n1] w fun r w' => r = .returned (.bool true) ∧ Below w.heap.size w w' := by
  obtain ⟨n, en, hn1, hn2⟩ := wI_nat n0 1 4 (by omega) (by omega)
  obtain ⟨k, ek, hk1, hk2⟩ := wI_nat n1 1 9 (by omega) (by omega)
  have W0 := Hid.in (fun w => within_n n0 1 4 w (by omega) (by omega) (by omega) n en)
  have W1 := Hid.in (fun w => within_n n1 1 9 w (by omega) (by omega) (by omega) k ek)
  have HE := Hid.in hE
  have h64 : n ≤ 64 := by omega
  clear en ek hE
  go_enter Tryd.func3, Tryd.ntmps3
  go_wp2_with fail
  refine (W0.out _).mono ?_
  rintro r w' ⟨rfl, rfl⟩
  go_wp2_with fail
  refine (W1.out _).mono ?_
  rintro r w ⟨rfl, rfl⟩
  go_wp2_with fail
  refine (lvnew_c w n k (by omega) h64 (by omega) (by omega)).mono ?_
  rintro r w1 ⟨q, S1, rfl, h1⟩
  have H1 := Hid.in h1
  clear h1
  go_wp2
  have HBi : Hid ((w1.alloc (.cells #[.int .i64 1, .int .i64 6, .int .i64 12, .int .i64 15] 3)).heap[w1.heap.size]? = some (.cells #[.int .i64 1, .int .i64 6, .int .i64 12, .int .i64 15] 3 (0, 0))) := Hid.in (heap_alloc_new _ _)
  have HFr : Hid (w1.heap.size ∉ S1) := Hid.in (H1.out.f.far (Nat.le_refl _))
  have H2 := Hid.in (H1.out.step (below_alloc w1 (.cells #[.int .i64 1, .int .i64 6, .int .i64 12, .int .i64 15] 3)))
  have HSt := Hid.in (RAt.start k n)
  obtain ⟨B, hB⟩ : ∃ B, w1.heap.size = B := ⟨_, rfl⟩
  rw [hB] at HBi HFr
  rw [hB]
  generalize w1.alloc _ = w2 at HBi H2 ⊢
  clear H1 hB
  go_loopw [9, 34] (fun m x wr => ∃ (a : Nat) (S : List Nat) (P : List (List M13)), a ≤ 4 ∧ x = .int .i64 (a : Int) ∧ m = .int .i64 (allF P : Int) ∧ RAt k n a P ∧ Lv w wr q S n k P ∧ wr.heap[B]? = some (.cells #[.int .i64 1, .int .i64 6, .int .i64 12, .int .i64 15] 3 (0, 0)) ∧ B ∉ S) (fun _ x _ => 10 - (intOf x).toNat)
  case atStart => exact ⟨0, S1, _, by omega, rfl, by rw [HSt.out.all]; rfl, HSt.out, H2.out, HBi.out, HFr.out⟩
  case round =>
    obtain ⟨a, S, P, ha, rfl, hmv, hA, hL, hBk, hBn⟩ := hrel
    have HA := Hid.in hA
    have HL := Hid.in hL
    have HBk := Hid.in hBk
    have HBn := Hid.in hBn
    clear hA hL hBk hBn HBi HFr H2 HSt
    obtain ⟨m0, hm0⟩ : ∃ m0, allF P = m0 := ⟨_, rfl⟩
    have HM0 := Hid.in hm0
    rw [hm0] at hmv
    subst hmv
    clear hm0
    by_cases hlt : a < 4
    · as_aux_lemma =>
        have ka : wr.cell? ⟨B, a, none⟩ = some (.int .i64 (kdR a)) := by
          rcases four_cases hlt with rfl | rfl | rfl | rfl <;> exact blk_cell HBk.out rfl
        obtain ⟨kv, hkv⟩ : ∃ kv, kdR a = kv := ⟨_, rfl⟩
        rw [hkv] at ka
        have HKv := Hid.in hkv
        have ia : (a : Int) < 4 := by omega
        clear hkv
        go_wp2
        go_loopw [9, 12] (fun m x wr => ∃ (c : Nat) (S : List Nat) (P : List (List M13)), c ≤ n ∧ x = .int .i64 (c : Int) ∧ m = .int .i64 (allF P : Int) ∧ (c < n → RInv k n a c 0 P) ∧ (c = n → RAt k n (a + 1) P) ∧ Lv w wr q S n k P ∧ wr.heap[B]? = some (.cells #[.int .i64 1, .int .i64 6, .int .i64 12, .int .i64 15] 3 (0, 0)) ∧ B ∉ S) (fun _ x _ => 70 - (intOf x).toNat)
        case atStart => exact ⟨0, S, P, Nat.zero_le _, rfl, by rw [HM0.out], fun _ => HA.out.in hlt (by omega), fun h => by omega, HL.out, HBk.out, HBn.out⟩
        case round =>
          obtain ⟨c, S2, P2, hc, rfl, hmv, hI, hO, hL2, hBk2, hBn2⟩ := hrel
          have HI := Hid.in hI
          have HO := Hid.in hO
          have HL2 := Hid.in hL2
          have HBk2 := Hid.in hBk2
          have HBn2 := Hid.in hBn2
          clear hI hO hL2 hBk2 hBn2 HA HL HBk HBn ka
          obtain ⟨m2, hm2⟩ : ∃ m2, allF P2 = m2 := ⟨_, rfl⟩
          have HM2 := Hid.in hm2
          rw [hm2] at hmv
          subst hmv
          clear hm2
          by_cases hcn : c < n
          · as_aux_lemma =>
              have ic : (c : Int) < (n : Int) := by omega
              go_upto_region 12 with fail
              obtain ⟨sv, hsv⟩ : ∃ sv, shR a = sv := ⟨_, rfl⟩
              have HSv := Hid.in hsv
              clear hsv
              go_cut [13] (fun b wx => b = .bool sv ∧ wx = wr)
              case first =>
                have hkv := HKv.out
                rcases four_cases hlt with rfl | rfl | rfl | rfl
                · obtain rfl : kv = 1 := hkv.symm
                  obtain rfl : sv = true := HSv.out.symm
                  go_wp2_with fail
                  go_meet
                  case rel => exact ⟨rfl, rfl⟩
                · obtain rfl : kv = 6 := hkv.symm
                  obtain rfl : sv = false := HSv.out.symm
                  go_wp2_with fail
                  go_meet
                  case rel => exact ⟨rfl, rfl⟩
                · obtain rfl : kv = 12 := hkv.symm
                  obtain rfl : sv = true := HSv.out.symm
                  go_wp2_with fail
                  go_meet
                  case rel => exact ⟨rfl, rfl⟩
                · obtain rfl : kv = 15 := hkv.symm
                  obtain rfl : sv = false := HSv.out.symm
                  go_wp2_with fail
                  go_meet
                  case rel => exact ⟨rfl, rfl⟩
              case rest =>
                obtain ⟨rfl, rfl⟩ := hcut
                obtain rfl := HKv.out
                go_wp2
                go_loopw [9, 14] (fun m x wr => ∃ (i : Nat) (S : List Nat) (P : List (List M13)), i ≤ k ∧ x = .int .i64 (i : Int) ∧ m = .int .i64 (allF P : Int) ∧ RInv k n a c i P ∧ Lv w wr q S n k P ∧ wr.heap[B]? = some (.cells #[.int .i64 1, .int .i64 6, .int .i64 12, .int .i64 15] 3 (0, 0)) ∧ B ∉ S) (fun _ x _ => 70 - (intOf x).toNat)
                case atStart => exact ⟨0, S2, P2, Nat.zero_le _, rfl, by rw [HM2.out], HI.out hcn, HL2.out, HBk2.out, HBn2.out⟩
                case round =>
                  obtain ⟨i, S3, P3, hi, rfl, hmv, hI3, hL3, hBk3, hBn3⟩ := hrel
                  have HI3 := Hid.in hI3
                  have HL3 := Hid.in hL3
                  have HBk3 := Hid.in hBk3
                  have HBn3 := Hid.in hBn3
                  clear hI3 hL3 hBk3 hBn3 HI HO HL2 HBk2 HBn2
                  obtain ⟨m3, hm3⟩ : ∃ m3, allF P3 = m3 := ⟨_, rfl⟩
                  have HM3 := Hid.in hm3
                  have hml : m3 ≤ 8320 := by rw [← hm3]; exact HL3.out.f.ok.all_le
                  have hmw : IntKind.i64.wrap ((m3 : Int) + 1) = (m3 : Int) + 1 := wrapI (by omega) (by omega)
                  rw [hm3] at hmv
                  subst hmv
                  clear hm3
                  by_cases hik : i < k
                  · have ii : (i : Int) < (k : Int) := by omega
                    by_cases hs : shR a = true ∧ 0 < c
                    · as_aux_lemma =>
                        have hfu := one_full (rm := k) (P := P3) (okR hlt hcn h64) (by rw [thR hlt hcn, HI3.out.cur, if_pos hs]; exact Nat.le_refl _)
                        have HFu := Hid.in hfu
                        have hc0 : ((c : Int) == 0) = false := by have := hs.2; simp; omega
                        obtain rfl : sv = true := by rw [← HSv.out]; exact hs.1
                        clear hfu
                        go_wp2_with fail
                        refine (fbof_c (kdR a) c _).mono ?_
                        rintro r xa ⟨rfl, hba⟩
                        have Ha := Hid.in (HL3.out.step hba)
                        have hBa := hba.block B (blk_lt HBk3.out)
                        have HBa := Hid.in (hBa.trans HBk3.out)
                        clear hba hBa
                        go_wp2_with (first | (refine wpList_build1 rfl (.tmp 57) rfl (ofM (kdR a) c) rfl ?_) | fail)
                        have hsend := lvsend_f w xa sa HE.out q n k S3 _ Ha.out [ofM (kdR a) c] (inR hlt (by omega)) 1 rfl (by omega) 6 0 0 rfl _ HFu.out.1 HFu.out.2
                        rw [perr_ne _ _ _ _ (by decide)] at hsend
                        refine hsend.mono ?_
                        clear hsend
                        rintro r xb ⟨rfl, S5, hL5, hbe⟩
                        obtain ⟨hB5, hn5⟩ := hbe.blk HBa.out HBn3.out
                        have HL5 := Hid.in hL5
                        have HB5 := Hid.in hB5
                        have HN5 := Hid.in hn5
                        clear hbe hL5 hB5 hn5 Ha HBa
                        go_wp2
                        go_roundw
                        case rel => exact ⟨i + 1, S5, P3, by omega, by go_num, by rw [HM3.out], HI3.out.same hs, HL5.out, HB5.out, HN5.out⟩
                        case measure => simp [intOf]; omega
                    · as_aux_lemma =>
                        have hok := one_ok (rm := k) (P := P3) (okR hlt hcn h64) (by rw [thR hlt hcn, HI3.out.cur, if_neg hs]; exact hik)
                        have HOk := Hid.in hok
                        have HPut := Hid.in (HI3.out.put hlt hcn h64 hs)
                        have HAl : Hid (allF (putF n P3 (ofM (kdR a) (c : Int))) = m3 + 1) := Hid.in (by rw [← HM3.out]; exact allF_put (by rw [HI3.out.len]; exact (okM_th (okR hlt hcn h64)).2))
                        clear hok
                        go_wp2_with fail
                        refine (fbof_c (kdR a) c _).mono ?_
                        rintro r xa ⟨rfl, hba⟩
                        have Ha := Hid.in (HL3.out.step hba)
                        have hBa := hba.block B (blk_lt HBk3.out)
                        have HBa := Hid.in (hBa.trans HBk3.out)
                        clear hba hBa
                        go_wp2_with (first | (refine wpList_build1 rfl (.tmp 57) rfl (ofM (kdR a) c) rfl ?_) | fail)
                        have hsend := lvsend_f w xa sa HE.out q n k S3 _ Ha.out [ofM (kdR a) c] (inR hlt (by omega)) 1 rfl (by omega) 0 0 0 rfl _ HOk.out.1 HOk.out.2
                        rw [perr_none] at hsend
                        refine hsend.mono ?_
                        clear hsend
                        rintro r xb ⟨rfl, S5, hL5, hbe⟩
                        obtain ⟨hB5, hn5⟩ := hbe.blk HBa.out HBn3.out
                        have HL5 := Hid.in hL5
                        have HB5 := Hid.in hB5
                        have HN5 := Hid.in hn5
                        clear hbe hL5 hB5 hn5 Ha HBa
                        cases sv with
                        | false =>
                          go_wp2
                          go_roundw
                          case rel => exact ⟨i + 1, S5, _, by omega, by go_num, by rw [HAl.out]; exact congrArg (Value.int .i64) (by omega), HPut.out, HL5.out, HB5.out, HN5.out⟩
                          case measure => simp [intOf]; omega
                        | true =>
                          have hc0 : ((c : Int) == 0) = true := by
                            have : c = 0 := by
                              rcases Nat.eq_zero_or_pos c with h5 | h5
                              · exact h5
                              · exact absurd ⟨HSv.out, h5⟩ hs
                            rw [this]; rfl
                          go_wp2
                          go_roundw
                          case rel => exact ⟨i + 1, S5, _, by omega, by go_num, by rw [HAl.out]; exact congrArg (Value.int .i64) (by omega), HPut.out, HL5.out, HB5.out, HN5.out⟩
                          case measure => simp [intOf]; omega
                  · as_aux_lemma =>
                      have hike : i = k := by omega
                      subst hike
                      have hfu := one_full (rm := i) (P := P3) (okR hlt hcn h64) (by rw [thR hlt hcn, HI3.out.cur]; split <;> exact Nat.le_refl _)
                      have HFu := Hid.in hfu
                      clear hfu
                      go_wp2_with fail
                      refine (fbof_c (kdR a) c _).mono ?_
                      rintro r ya ⟨rfl, hba⟩
                      have Ha := Hid.in (HL3.out.step hba)
                      have hBa := hba.block B (blk_lt HBk3.out)
                      have HBa := Hid.in (hBa.trans HBk3.out)
                      clear hba hBa
                      go_wp2_with (first | (refine wpList_build1 rfl (.tmp 76) rfl (ofM (kdR a) c) rfl ?_) | fail)
                      have hsend := lvsend_f w ya sa HE.out q n i S3 _ Ha.out [ofM (kdR a) c] (inR hlt (by omega)) 1 rfl (by omega) 6 0 0 rfl _ HFu.out.1 HFu.out.2
                      refine hsend.mono ?_
                      clear hsend
                      rintro r yb ⟨rfl, S5, hL5, hbe⟩
                      obtain ⟨hB5, hn5⟩ := hbe.blk HBa.out HBn3.out
                      have HL5 := Hid.in hL5
                      have HB5 := Hid.in hB5
                      have HN5 := Hid.in hn5
                      clear hbe hL5 hB5 hn5 Ha HBa
                      go_wp2_with fail
                      refine (kIs_perr opFSend 0 6 (by omega) _ sa (HE.out.below HL5.out.b)).mono ?_
                      rintro r wc ⟨rfl, hbc⟩
                      have HL6 := Hid.in (HL5.out.step hbc)
                      have HB6 := Hid.in ((hbc.block B (blk_lt HB5.out)).trans HB5.out)
                      clear hbc
                      go_wp2
                      go_roundw
                      case rel => exact ⟨c + 1, S5, P3, by omega, by go_num, by rw [HM3.out], fun h => HI3.out.next hlt h, fun h => HI3.out.out hlt h, HL6.out, HB6.out, HN5.out⟩
                      case measure => simp [intOf]; omega
          · as_aux_lemma =>
              obtain rfl : c = n := by omega
              have HO2 := Hid.in (HO.out rfl)
              clear HO HI
              go_wp2
              go_roundw
              case rel => exact ⟨a + 1, S2, P2, by omega, by go_num, by rw [HM2.out], HO2.out, HL2.out, HBk2.out, HBn2.out⟩
              case measure => simp [intOf]; omega
    · as_aux_lemma =>
        obtain rfl : a = 4 := by omega
        have hkn : k * n ≤ 9 * 4 := Nat.mul_le_mul (by omega) (by omega)
        have e1 : 2 * k * n = 2 * (k * n) := Nat.mul_assoc 2 k n
        obtain ⟨t, ht⟩ : ∃ t, 2 * k + 2 * k * n = t := ⟨_, rfl⟩
        have hall : allF P = t := by
          rw [HA.out.all, ← ht]
          show k + k * n + k + k * n = _
          omega
        have hw1 : IntKind.i64.wrap (2 * (k : Int)) = ((2 * k : Nat) : Int) := by rw [wrapI (by omega) (by omega)]; omega
        have hw2 : IntKind.i64.wrap (((2 * k : Nat) : Int) * (n : Int)) = ((2 * k * n : Nat) : Int) := by rw [← Int.natCast_mul]; exact wrapI (by omega) (by omega)
        have hw3 : IntKind.i64.wrap (((2 * k : Nat) : Int) + ((2 * k * n : Nat) : Int)) = (t : Int) := by rw [wrapI (by omega) (by omega)]; omega
        generalize ((2 * k : Nat) : Int) = z1 at hw1 hw2 hw3
        generalize ((2 * k * n : Nat) : Int) = z2 at hw2 hw3
        have HAll := Hid.in (fball_c wr q n k S P HL.out.f t hall)
        obtain rfl : m0 = t := by rw [← HM0.out]; exact hall
        clear hkn e1 ht hall
        go_wp2_with fail
        refine HAll.out.mono ?_
        rintro r w8 ⟨rfl, rfl⟩
        clear HAll
        go_wp2_with fail
        refine (fabricRuns_any _ sa (HE.out.below HL.out.b)).mono ?_
        rintro r w9 ⟨rfl, hb9⟩
        have HB9 := Hid.in (bstep HL.out.b (Nat.le_refl _) hb9)
        clear hb9
        go_wp2
        go_ret
        exact ⟨rfl, HB9.out⟩

end Go.Proofs.YtmgmjklnibmacabDoor
