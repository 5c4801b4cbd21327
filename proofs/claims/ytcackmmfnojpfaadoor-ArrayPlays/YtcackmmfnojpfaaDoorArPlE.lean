/- DERIVED of the program: ArrayPlays where no array is made. Own work. -/
import Derived.Test.YtcackmmfnojpfaaDoorArR6
import Derived.Test.YtcackmmfnojpfaaDoorArRuns
import Derived.Test.YtcackmmfnojpfaaDoorArAsk
import Derived.Test.YtcackmmfnojpfaaDoorArInv
import Derived.Test.YtcackmmfnojpfaaDoorArFull
import Derived.Test.YtcackmmfnojpfaaDoorArEq
namespace Go.Proofs.YtcackmmfnojpfaaDoor
open Go.RowKit Go.Extern.Stop Go.Stop Go.Extern

theorem kIs_nil (op : ByteArray) (n : Int) (w : World) : Calls Tryd.prog 15 #[.nilIface, .int .i64 0, .string op, .int .i64 n] w fun r w' => r = .returned (.bool true) ∧ Below w.heap.size w w' := by
  go_enter Tryd.func15, Tryd.ntmps15
  go_wp2
  go_ret
  exact ⟨rfl, Below.refl _ _⟩
theorem kIs_perr (op : ByteArray) (n : Int) (c : Nat) (h2 : c ≤ 10) (w : World) (sa : Nat → Addr) (hE : Env10 w sa) :
    Calls Tryd.prog 15 #[perr sa c op n, .int .i64 c, .string op, .int .i64 n] w fun r w' => r = .returned (.bool true) ∧ Below w.heap.size w w' := by
  unfold perr
  split
  · rename_i h
    subst h
    exact kIs_nil op n w
  · exact kIs_flt op n [] c (by omega) h2 w sa hE

set_option maxRecDepth 20000 in
theorem arrayPlays_arg (w : World) (sa : Nat → Addr) (hE : Env10 w sa) (n0 n1 : Int) (at_ : Int) (hat : pB n0 = false ∧ at_ = 0 ∨ pB n0 = true ∧ pB n1 = false ∧ at_ = 1) (al : Option Addr) (n capl : Nat) :
    Calls Tryd.prog 4 #[.int .i64 n0, .int .i64 n1, .slice al n capl] w fun r w' => r = .returned (.bool true) ∧ Below w.heap.size w w' := by
  have HE := Hid.in hE
  have N1 : Hid (∀ w', Env10 w' sa → Calls Tryd.prog 9 #[.int .i64 n0, .int .i64 n1] w' fun r w'' => r = .returned (.tuple #[.pointer none, flt opNew at_ (snt (sa 1))]) ∧ w'' = w') := Hid.in (fun w' hw => by
    rcases hat with ⟨h, rfl⟩ | ⟨h1, h2, rfl⟩
    · exact new_arg0 w' sa hw n0 n1 h
    · exact new_arg1 w' sa hw n0 n1 h1 h2)
  have N2 : Hid (∀ w', Calls Tryd.prog 17 #[.int .i64 n0, .int .i64 n1] w' fun r w'' => r = .returned (.tuple #[.pointer none, .int .i64 1, .int .i64 at_]) ∧ w'' = w') := Hid.in (fun w' => by
    rcases hat with ⟨h, rfl⟩ | ⟨h1, h2, rfl⟩
    · exact rnew_arg0 w' n0 n1 h
    · exact rnew_arg1 w' n0 n1 h1 h2)
  clear hE hat
  go_enter Tryd.func4, Tryd.ntmps4
  go_wp2_with fail
  refine (N1.out w HE.out).mono ?_
  rintro r w' ⟨rfl, rfl⟩
  go_wp2_with fail
  refine (N2.out _).mono ?_
  rintro r w' ⟨rfl, rfl⟩
  go_wp2_with fail
  refine (kIs_flt opNew at_ [] 1 (by decide) (by decide) _ sa HE.out).mono ?_
  rintro r w1 ⟨rfl, hb⟩
  have HB := Hid.in hb
  clear hb
  go_wp2
  go_loopw [12] (fun c wr => c = .int .i64 0 ∧ wr = w1) (fun _ _ => 0)
  case atStart => exact ⟨rfl, rfl⟩
  case round =>
    obtain ⟨rfl, rfl⟩ := hrel
    have hstop : True := trivial
    by_cases h0 : (0 : Int) < (n : Int)
    · go_wp2_with fail
      refine (arrayRuns_any _ sa (HE.out.below HB.out)).mono ?_
      rintro r w2 ⟨rfl, hb⟩
      have HB2 := Hid.in (bstep HB.out (Nat.le_refl _) hb)
      clear hb
      go_wp2
      go_ret
      exact ⟨rfl, HB2.out⟩
    · go_wp2_with fail
      refine (arrayRuns_any _ sa (HE.out.below HB.out)).mono ?_
      rintro r w2 ⟨rfl, hb⟩
      have HB2 := Hid.in (bstep HB.out (Nat.le_refl _) hb)
      clear hb
      go_wp2
      go_ret
      exact ⟨rfl, HB2.out⟩

end Go.Proofs.YtcackmmfnojpfaaDoor
