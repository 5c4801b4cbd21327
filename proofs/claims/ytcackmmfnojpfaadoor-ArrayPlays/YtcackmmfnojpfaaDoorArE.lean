/- DERIVED of the program: Touch, slices.Index, slices.Contains, Victim by their contracts. Own work. -/
import Derived.Test.YtcackmmfnojpfaaDoorArD
namespace Go.Proofs.YtcackmmfnojpfaaDoor
open Go.RowKit Go.Extern.Stop Go.Stop Go.Extern

theorem isW_of {k : Nat} (h : k = 1 ∨ k = 2 ∨ k = 4 ∨ k = 8) : isW (k : Int) := by unfold isW; omega

theorem cell_after_set {w : World} (a : Addr) (v : Value) (o : Obj) (i : Nat) : ((w.setCell a v).alloc o).cell? ⟨w.heap.size, i, none⟩ = (w.alloc o).cell? ⟨w.heap.size, i, none⟩ := by
  have h1 := heap_alloc_new (w.setCell a v) o
  rw [show (w.setCell a v).heap.size = w.heap.size from by simp [World.setCell]] at h1
  have h2 := heap_alloc_new w o
  simp only [World.cell?, h1, h2]

set_option maxHeartbeats 1600000 in
theorem atouch_any (w : World) (B k : Nat) (A : List St) (hA : Arr w B k A) (l : Int) :
    Calls Tryd.prog 12 #[.pointer (some ⟨B + 1, 0, none⟩), .int .i64 l] w fun r w' => r = .returned (.bool (touchA A l).1) ∧ Arr w' B k (touchA A l).2 ∧ Apart B (B + 2 + A.length) w w' := by
  have HA := Hid.in hA
  cases hv : vld l with
  | false =>
    have HV := Hid.in hv
    have HR : Hid (touchA A l = (false, A)) := Hid.in (by simp [touchA, hv])
    rw [HR.out]
    clear hv hA
    go_enter Tryd.func12, Tryd.ntmps12
    go_wp2_with fail
    refine (find_out _ B k A HA.out l HV.out).mono ?_
    rintro r w1 ⟨rfl, hb⟩
    have HB := Hid.in hb
    clear hb
    go_wp2
    go_ret
    exact ⟨rfl, HA.out.step HB.out, Apart.of_below HB.out⟩
  | true =>
    have HS := Hid.in (set_home hA.nn hv)
    have HG := Hid.in (stA_get hA.pos.1 l)
    obtain ⟨b, es, hst⟩ : ∃ b es, stA A l = (b, es) := ⟨_, _, rfl⟩
    have HR : Hid (touchA A l = if fnd l es < 0 then (false, A) else (true, A.set (hm A l) (touchI b (es.length : Int) (fnd l es), es))) := Hid.in (by simp [touchA, hv, hst])
    rw [hst] at HG
    clear hv hA hst
    generalize hm A l = h at HS HG HR
    by_cases hz : fnd l es < 0
    · rw [HR.out, if_pos hz]
      clear HR
      obtain ⟨f, hf⟩ : ∃ f, fnd l es = f := ⟨_, rfl⟩
      rw [hf] at hz
      have HF := Hid.in hf
      clear hf
      go_enter Tryd.func12, Tryd.ntmps12
      go_wp2_with fail
      refine (find_in _ B k A HA.out l h b es HS.out HG.out).mono ?_
      rw [HF.out]
      rintro r w1 ⟨rfl, hb⟩
      have HB := Hid.in hb
      clear hb
      go_wp2
      go_ret
      exact ⟨rfl, HA.out.step HB.out, Apart.of_below HB.out⟩
    · rw [HR.out, if_neg hz]
      clear HR
      obtain ⟨i, hi, hfi, _, _⟩ := found hz
      have hkl := (HA.out.hdr HG.out).2.2.2.2.1
      have hb8 := (HA.out.hdr HG.out).2.2.2.1
      rw [hfi, hkl]
      rw [hkl] at hi
      have HF := Hid.in hfi
      have HB8 := Hid.in hb8
      obtain ⟨T, hT⟩ : ∃ T, touchI b (k : Int) (i : Int) = T := ⟨_, rfl⟩
      have hT8 : T < 256 := by rw [← hT]; exact touchI_lt hb8 _ _
      rw [hT]
      have HT := Hid.in hT
      have HT8 := Hid.in hT8
      clear hz hfi hkl hb8 hT hT8
      go_enter Tryd.func12, Tryd.ntmps12
      go_wp2_with fail
      refine (find_in _ B k A HA.out l h b es HS.out HG.out).mono ?_
      rw [HF.out]
      rintro r w1 ⟨rfl, hb⟩
      have hA2 := HA.out.step hb
      have HA2 := Hid.in hA2
      have HB := Hid.in hb
      obtain ⟨k0, k1, k2, _, _, hl⟩ := hA2.hdr HG.out
      obtain ⟨p1, p2, p3, p4⟩ := hA2.pos
      have hik : (i : Int) < (k : Int) := by omega
      have hlA : (h : Int) < (A.length : Int) := by omega
      have hf := hA2.freeS
      have hlt1 := hA2.lt.1
      have hlt0 : B < w1.heap.size := by omega
      have hne1 : ¬ B + 1 = w1.heap.size := by omega
      have hne0 : ¬ B = w1.heap.size := by omega
      have hq : ∀ i, ((w1.setCell ⟨B, h * 2, none⟩ (.int .u8 (T : Int))).alloc (.cells #[.int .u8 (b : Int), .slice (some ⟨B + 2 + h, 0, none⟩) k k] 77)).cell? ⟨w1.heap.size, i, none⟩ = (w1.alloc (.cells #[.int .u8 (b : Int), .slice (some ⟨B + 2 + h, 0, none⟩) k k] 77)).cell? ⟨w1.heap.size, i, none⟩ := fun i => by
        exact cell_after_set _ _ _ _
      clear hb hA2
      go_wp2
      go_region_held3 (fun W => W.cell? ⟨B + 1, 0, none⟩ = some (.slice (some ⟨B, 0, none⟩) A.length A.length) ∧ W.cell? ⟨w1.heap.size, 0, none⟩ = some (.int .u8 (b : Int)) ∧ W.cell? ⟨w1.heap.size, 1, none⟩ = some (.slice (some ⟨B + 2 + h, 0, none⟩) k k)) (first | go_keep | (simp [*]; done))
        (first | (go_at_call 35; refine (touch_c b _ _ T HB8.out HT.out _).mono ?_; rintro r w' ⟨rfl, rfl⟩))
      all_goals
        go_wp2
        go_ret
        obtain ⟨r1, r2⟩ := HA2.out.bits HG.out T HT8.out
        exact ⟨rfl, (r1.step (below_alloc _ _)).drew, ((Apart.of_below HB.out).trans (r2.trans (Apart.of_below (below_alloc _ _)))).drew⟩

theorem index_any (w : World) (ao : Option Addr) (cap : Nat) (zs : List Int) (hZ : Ints w ao cap zs) (hlen : zs.length ≤ 35184372088832) (v : Int) :
    Calls Tryd.prog 50 #[.slice ao zs.length cap, .int .i64 v] w fun r w' => ∃ j : Int, r = .returned (.int .i64 j) ∧ decide (0 ≤ j) = zs.contains v ∧ w' = w := by
  have HZ := Hid.in hZ
  clear hZ
  go_enter Tryd.func50, Tryd.ntmps50
  go_wp2
  go_loopw [8] (fun i wr => ∃ j : Nat, j ≤ zs.length ∧ i = .int .i64 j ∧ (zs.take j).contains v = false ∧ wr = w) (fun i _ => zs.length - (intOf i).toNat)
  case atStart => exact ⟨0, Nat.zero_le _, rfl, rfl, rfl⟩
  case round =>
    obtain ⟨j, hj, rfl, hp, rfl⟩ := hrel
    have HP := Hid.in hp
    clear hp
    by_cases hlt : j < zs.length
    · obtain ⟨g, o, rfl, hc⟩ := HZ.out.cell j hlt
      obtain ⟨z, hz⟩ : ∃ z, zs[j] = z := ⟨_, rfl⟩
      rw [hz] at hc
      have HE := Hid.in hz
      clear hz
      have i1 : (j : Int) < (zs.length : Int) := by omega
      by_cases hq : v = z
      · subst hq
        have HN : Hid (zs.contains v = true) := Hid.in (by rw [List.contains_iff_mem]; exact HE.out ▸ List.getElem_mem hlt)
        go_wp2
        go_ret
        exact ⟨_, rfl, by rw [HN.out]; simp, rfl⟩
      · have hq1 : (v == z) = false := by simpa using hq
        have HN : Hid ((zs.take (j + 1)).contains v = false) := Hid.in (by
          have h := HP.out
          rw [List.take_succ_eq_append_getElem hlt, HE.out]
          simp only [List.contains_eq_mem, decide_eq_false_iff_not, List.mem_append, List.mem_singleton, not_or] at h ⊢
          exact ⟨h, hq⟩)
        go_wp2
        go_roundw
        case rel => exact ⟨j + 1, by omega, by go_num, HN.out, trivial⟩
        case measure => simp [intOf]; omega
    · have HN : Hid (zs.contains v = false) := Hid.in (by have h := HP.out; rwa [List.take_of_length_le (by omega)] at h)
      go_wp2
      go_ret
      exact ⟨_, rfl, by rw [HN.out]; decide, rfl⟩

theorem contains_any (w : World) (ao : Option Addr) (cap : Nat) (zs : List Int) (hZ : Ints w ao cap zs) (hlen : zs.length ≤ 35184372088832) (v : Int) (c : Bool) (hc : zs.contains v = c) :
    Calls Tryd.prog 36 #[.slice ao zs.length cap, .int .i64 v] w fun r w' => r = .returned (.bool c) ∧ w' = w := by
  have HZ := Hid.in hZ
  have HC := Hid.in hc
  clear hZ hc
  go_enter Tryd.func36, Tryd.ntmps36
  go_wp2_with fail
  refine (index_any w ao cap zs HZ.out hlen v).mono ?_
  rintro r w' ⟨j, rfl, hj, rfl⟩
  have HJ := Hid.in hj
  clear hj
  go_wp2
  go_ret
  exact ⟨ret_bool (by rw [HJ.out, HC.out]), rfl⟩

end Go.Proofs.YtcackmmfnojpfaaDoor
