/- DERIVED of the program: the document's own NewArray; plain; Same of entries. Own work. -/
import Derived.Test.YtcackmmfnojpfaaDoorArR4
import Derived.Test.YtcackmmfnojpfaaDoorArEq
import Derived.Maps.AppendAt
namespace Go.Proofs.YtcackmmfnojpfaaDoor
open Go.RowKit Go.Extern.Stop Go.Stop Go.Extern

set_option maxHeartbeats 1600000 in
theorem plain_any (e : En) (w : World) : Calls Tryd.prog 19 #[e.val] w fun r w' => r = .returned e.val ∧ Below w.heap.size w w' := by
  obtain ⟨e0, e1, e2, e3, e4, e5, e6, e7, e8, e9⟩ := e
  go_enter Tryd.func19, Tryd.ntmps19
  go_wp2
  exact bodyPost_ret (v := (En.mk e0 e1 e2 e3 e4 e5 e6 e7 e8 e9).val) (by simp [results, Tryd.results19, go_sem]) rfl ⟨rfl, (below_alloc _ _).alloc (by simp) _⟩

set_option maxHeartbeats 1600000 in
theorem same_entries (w : World) (B1 B2 : Nat) (a1 a2 : Option Addr) (n c1 c2 : Nat) (L : List En) (h1 : OwnE 46 w B1 a1 n c1 L) (h2 : OwnE 46 w B2 a2 n c2 L) (hn : n ≤ 1000) :
    Calls Tryd.prog 27 #[.slice a1 n c1, .slice a2 n c2] w fun r w' => r = .returned (.bool true) ∧ Below w.heap.size w w' := by
  have H1 := Hid.in h1
  have H2 := Hid.in h2
  have HL := Hid.in h1.len
  clear h1 h2
  go_enter Tryd.func27, Tryd.ntmps27
  go_wp2
  go_loopw [5] (fun c wr => ∃ j : Nat, j ≤ n ∧ c = .int .i64 (j : Int) ∧ Below w.heap.size w wr) (fun c _ => n - (intOf c).toNat)
  case atStart => exact ⟨0, Nat.zero_le _, rfl, Below.refl _ _⟩
  case round =>
    obtain ⟨j, hj, rfl, hb⟩ := hrel
    have HB := Hid.in hb
    clear hb
    by_cases hlt : j < n
    · have hjL : j < L.length := by rw [← HL.out]; exact hlt
      obtain ⟨b1, rfl, x1⟩ := (H1.out.step HB.out).ent j hjL
      obtain ⟨b2, rfl, x2⟩ := (H2.out.step HB.out).ent j hjL
      obtain ⟨e, he⟩ : ∃ e, L[j] = e := ⟨_, rfl⟩
      rw [he] at x1 x2
      clear he
      obtain ⟨e0, e1, e2, e3, e4, e5, e6, e7, e8, e9⟩ := e
      obtain ⟨c0, c1', c2', c3, c4, c5, c6, c7, c8, c9⟩ := x1
      obtain ⟨d0, d1, d2, d3, d4, d5, d6, d7, d8, d9⟩ := x2
      simp only [] at c0 c1' c2' c3 c4 c5 c6 c7 c8 c9 d0 d1 d2 d3 d4 d5 d6 d7 d8 d9
      have hne : ∀ w', (binOp .neq 46 (.agg #[.int .i64 e0, .int .i64 e1, .int .i64 e2, .int .i64 e3, .int .u32 e4, .int .u32 e5, .int .u32 e6, .int .u32 e7, .bool e8, .bool e9]) (.agg #[.int .i64 e0, .int .i64 e1, .int .i64 e2, .int .i64 e3, .int .u32 e4, .int .u32 e5, .int .u32 e6, .int .u32 e7, .bool e8, .bool e9])).run Tryd.prog w' = .ok (.bool false) w' := fun w' => ne_rentry (En.mk e0 e1 e2 e3 e4 e5 e6 e7 e8 e9) w'
      have i1 : (j : Int) < (n : Int) := by omega
      go_wp2
      go_quiet (fail)
      go_wp2
      go_roundw
      case rel => exact ⟨j + 1, by omega, by go_num, drewN_below HB.out _⟩
      case measure => simp [intOf]; omega
    · go_wp2
      go_ret
      exact ⟨rfl, HB.out⟩

end Go.Proofs.YtcackmmfnojpfaaDoor
