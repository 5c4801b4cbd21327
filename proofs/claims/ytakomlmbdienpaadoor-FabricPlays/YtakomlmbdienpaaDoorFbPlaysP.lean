/- FabricPlays: for every two numbers and row of calls the call returns true, and the arguments read as they did, in every world whose listed package variables are as the text of the program lays them. No condition besides. -/
import Derived.Test.YtakomlmbdienpaaDoorFbPlays
import Derived.Test.YtakomlmbdienpaaDoorFbArg
import Derived.Test.YtakomlmbdienpaaDoorCards
import Derived.Test.YtakomlmbdienpaaDoorTie
import Derived.ProofKit
import Derived.OpenShut
import Derived.Carry
import Derived.ChangeMaps5
import Derived.Deep.DeepHandedRow
namespace Go.Proofs.YtakomlmbdienpaaDoor
open Go.ChangeShapes Go.WideShapes Go.ChangeAt Go.RowKit Go.ChangeMaps
namespace FFabricPlays

theorem own : ownKnob Tryd.prog.godebug = none := by kernel_rfl
theorem laidOut : laidOutB Tryd.prog = true := by kernel_rfl

set_option maxRecDepth 100000 in
theorem contract (H : Type) (enc : TypeId × Value → H) (W : World) (base : Nat) (args : Array Value) (ds gs : List (DataW H)) (before : List MemPlace)
    (hval : ∀ (j : Nat) t v, Tryd.f4.params[j]? = some t → args[j]? = some v → Value.okWide Tryd.prog W .any base t v)
    (hW : DataW.Whole enc Tryd.prog Tryd.f4.params.toList Rows.fabricPlaysSpec.vars false W args.toList ds gs before) (hL : laidMetH Tryd.prog Rows.fabricPlaysRow.laid W) :
    Calls Tryd.prog 4 args W fun e W' => ∃ v, e = .returned v ∧ Rows.fabricPlaysSpec.post enc Tryd.prog Tryd.f4 false true false false W args v W' := by
  have hW' := hW
  obtain ⟨p, q, hA0, hV, rfl, hfz, hnd⟩ := hW
  have hA : DataW.TrodAll enc Tryd.prog W 0 (fun _ => true) true Tryd.f4.params.toList args.toList ds p := hA0
  rw [Tryd.params4] at hA hval
  obtain ⟨v0, vs0, d0, ds0, p0, q0, hargs, rfl, rfl, h0, r0⟩ := trodAll_cons hA
  obtain ⟨v1, vs1, d1, ds1, p1, q1, rfl, rfl, rfl, h1, r1⟩ := trodAll_cons r0
  obtain ⟨v2, vs2, d2, ds2, p2, q2, rfl, rfl, rfl, h2, r2⟩ := trodAll_cons r1
  obtain ⟨rfl, rfl, rfl⟩ := trodAll_nil r2
  obtain rfl : args = #[v0, v1, v2] := Array.toList_inj.1 hargs
  obtain ⟨rfl, rfl⟩ := trodVars_none hV
  have k2 := h2
  have hlt2 : ∀ x ∈ p2, x.block < W.heap.size := fun x hx => hW'.lt x (by simp [hx])
  obtain ⟨n0, rfl, rfl, rfl, wf0⟩ := open_int Tryd.underlying3 (hval 0 3 v0 rfl rfl) h0
  obtain ⟨n1, rfl, rfl, rfl, wf1⟩ := open_int Tryd.underlying3 (hval 1 3 v1 rfl rfl) h1
  obtain ⟨ao2, len2, cap2, rfl, hI2⟩ := open_asks12 (hval 2 40 v2 rfl rfl) h2
  clear hA0
  simp only [List.append_nil] at hW'
  obtain ⟨sa, hE⟩ := env10_of_laid hL
  refine (fabricPlays_any W sa hE n0 n1 ao2 len2 cap2 hI2).mono fun e W' ⟨he, hg⟩ => ?_
  subst he
  refine ⟨_, rfl, _, _, _, [], _, [], hW', ?_, trodAll_cons_mk (shut_int Tryd.underlying3 wf0) (trodAll_cons_mk (shut_int Tryd.underlying3 wf1) (trodAll_cons_mk (Below.trod laidOut (by kernel_rfl) (of_decide_eq_true (by kernel_rfl)) k2 hg hlt2) (trodAll_mk0))), ?_, hg.frame _, fun h => by cases h⟩
  · exact trodAll_cons_mk (shut_bool Tryd.underlying4 _) trodAll_mk0
  · rfl

theorem witness (os : Os) (H : Type) (enc : TypeId × Value → H) : ∃ w0 : World, w0.os = os ∧
    (w0.forCall (fun _ _ => 0) ⟨#[], #[.int .i64 0, .int .i64 0, .slice none 0 0], []⟩).variablesB Tryd.checked.prog = true ∧
    ((w0.forCall (fun _ _ => 0) ⟨#[], #[.int .i64 0, .int .i64 0, .slice none 0 0], []⟩).heap.toList.drop Tryd.checked.prog.globals.size).take ((begin Tryd.checked.prog (fun _ _ => 0) default).world.heap.size - Tryd.checked.prog.globals.size) = (begin Tryd.checked.prog (fun _ _ => 0) default).world.heap.toList.drop Tryd.checked.prog.globals.size ∧
    Input.okWideB Tryd.checked.prog (w0.forCall (fun _ _ => 0) ⟨#[], #[.int .i64 0, .int .i64 0, .slice none 0 0], []⟩) 4 ⟨#[], #[.int .i64 0, .int .i64 0, .slice none 0 0], []⟩ = true ∧
    (OpenSpec.ofChange Rows.fabricPlaysSpec).preRow enc Tryd.checked.prog Tryd.f4 Rows.fabricPlaysRow.domain false Rows.fabricPlaysRow.laid (w0.forCall (fun _ _ => 0) ⟨#[], #[.int .i64 0, .int .i64 0, .slice none 0 0], []⟩).memory #[.int .i64 0, .int .i64 0, .slice none 0 0] := by
  refine ⟨{ World.holding Tryd.prog os ⟨#[.cells #[.string ⟨#[97, 110, 32, 97, 114, 103, 117, 109, 101, 110, 116, 32, 116, 104, 97, 116, 32, 99, 97, 110, 39, 116, 32, 98, 101]⟩] 130, .cells #[.string ⟨#[116, 111, 111, 32, 108, 111, 110, 103]⟩] 130, .cells #[.string ⟨#[116, 111, 111, 32, 115, 104, 111, 114, 116]⟩] 130, .cells #[.string ⟨#[110, 111, 116, 32, 105, 110, 32, 102, 111, 114, 109]⟩] 130, .cells #[.string ⟨#[115, 111, 109, 101, 116, 104, 105, 110, 103, 32, 108, 101, 102, 116, 32, 111, 118, 101, 114]⟩] 130, .cells #[.string ⟨#[110, 111, 32, 114, 111, 111, 109]⟩] 130, .cells #[.string ⟨#[117, 110, 100, 101, 114, 32, 119, 97, 121]⟩] 130, .cells #[.string ⟨#[116, 104, 101, 114, 101, 32, 105, 115, 32, 110, 111, 110, 101]⟩] 130, .cells #[.string ⟨#[110, 111, 116, 32, 105, 110, 32, 111, 114, 100, 101, 114]⟩] 130, .cells #[.string ⟨#[97, 110, 111, 116, 104, 101, 114, 32, 118, 97, 108, 117, 101]⟩] 130], #[], []⟩ with
    heap := (((((((((((World.holding Tryd.prog os ⟨#[.cells #[.string ⟨#[97, 110, 32, 97, 114, 103, 117, 109, 101, 110, 116, 32, 116, 104, 97, 116, 32, 99, 97, 110, 39, 116, 32, 98, 101]⟩] 130, .cells #[.string ⟨#[116, 111, 111, 32, 108, 111, 110, 103]⟩] 130, .cells #[.string ⟨#[116, 111, 111, 32, 115, 104, 111, 114, 116]⟩] 130, .cells #[.string ⟨#[110, 111, 116, 32, 105, 110, 32, 102, 111, 114, 109]⟩] 130, .cells #[.string ⟨#[115, 111, 109, 101, 116, 104, 105, 110, 103, 32, 108, 101, 102, 116, 32, 111, 118, 101, 114]⟩] 130, .cells #[.string ⟨#[110, 111, 32, 114, 111, 111, 109]⟩] 130, .cells #[.string ⟨#[117, 110, 100, 101, 114, 32, 119, 97, 121]⟩] 130, .cells #[.string ⟨#[116, 104, 101, 114, 101, 32, 105, 115, 32, 110, 111, 110, 101]⟩] 130, .cells #[.string ⟨#[110, 111, 116, 32, 105, 110, 32, 111, 114, 100, 101, 114]⟩] 130, .cells #[.string ⟨#[97, 110, 111, 116, 104, 101, 114, 32, 118, 97, 108, 117, 101]⟩] 130], #[], []⟩).heap.modify 0 fun
      | .cells _ t frozen => .cells #[snt ⟨(World.holding Tryd.prog default ⟨#[], #[], []⟩).heap.size + 0, 0, none⟩] t frozen
      | o => o).modify 2 fun
      | .cells _ t frozen => .cells #[snt ⟨(World.holding Tryd.prog default ⟨#[], #[], []⟩).heap.size + 1, 0, none⟩] t frozen
      | o => o).modify 3 fun
      | .cells _ t frozen => .cells #[snt ⟨(World.holding Tryd.prog default ⟨#[], #[], []⟩).heap.size + 2, 0, none⟩] t frozen
      | o => o).modify 4 fun
      | .cells _ t frozen => .cells #[snt ⟨(World.holding Tryd.prog default ⟨#[], #[], []⟩).heap.size + 3, 0, none⟩] t frozen
      | o => o).modify 5 fun
      | .cells _ t frozen => .cells #[snt ⟨(World.holding Tryd.prog default ⟨#[], #[], []⟩).heap.size + 4, 0, none⟩] t frozen
      | o => o).modify 1 fun
      | .cells _ t frozen => .cells #[snt ⟨(World.holding Tryd.prog default ⟨#[], #[], []⟩).heap.size + 5, 0, none⟩] t frozen
      | o => o).modify 6 fun
      | .cells _ t frozen => .cells #[snt ⟨(World.holding Tryd.prog default ⟨#[], #[], []⟩).heap.size + 6, 0, none⟩] t frozen
      | o => o).modify 7 fun
      | .cells _ t frozen => .cells #[snt ⟨(World.holding Tryd.prog default ⟨#[], #[], []⟩).heap.size + 7, 0, none⟩] t frozen
      | o => o).modify 8 fun
      | .cells _ t frozen => .cells #[snt ⟨(World.holding Tryd.prog default ⟨#[], #[], []⟩).heap.size + 8, 0, none⟩] t frozen
      | o => o).modify 9 fun
      | .cells _ t frozen => .cells #[snt ⟨(World.holding Tryd.prog default ⟨#[], #[], []⟩).heap.size + 9, 0, none⟩] t frozen
      | o => o).modify 10 fun
      | .cells _ t frozen => .cells #[rty 24] t frozen
      | o => o }, rfl, by kernel_rfl, by kernel_rfl, by kernel_rfl, ?_⟩
  refine OpenSpec.preRow_of_cond 8 (x := ([.lit (.int .i64 0), .lit (.int .i64 0), .nil], [], [])) (by kernel_rfl) (by kernel_rfl) (fun k hk => by cases hk) (by kernel_rfl) ?_
  exact laidMetH_of_parts (laidMet_of_run' 8 (by kernel_rfl) (by kernel_rfl)) (by kernel_rfl)

set_option maxRecDepth 100000 in
theorem lifted (os : Os) (started : os.Started) (H : Type) (enc : TypeId × Value → H) (F : Stop.Interp) :
    ReturnsInHanded {} Tryd.checked os 4 .any ((OpenSpec.ofChange Rows.fabricPlaysSpec).preRow enc Tryd.prog Tryd.f4 Rows.fabricPlaysRow.domain false Rows.fabricPlaysRow.laid) (((OpenSpec.ofChange Rows.fabricPlaysSpec).at F).post enc Tryd.prog Tryd.f4 false true false false) := by
  obtain ⟨w0, h1, h2, h3, h4, h5⟩ := witness os H enc
  refine returnsInHanded_of_row (C := Tryd.checked) (s := (OpenSpec.ofChange Rows.fabricPlaysSpec)) own started (by kernel_rfl) Tryd.func4
    (witness_row_at (enc := enc) (C := Tryd.checked) false w0 #[.int .i64 0, .int .i64 0, .slice none 0 0] h1 h2 h3 h4 h5) ?_
  intro W base args ds gs before hval hW _ _ _ hL _ _
  exact contract H enc W base args ds gs before hval hW hL

theorem said : Rows.FabricPlaysSaid :=
  OpenClaim.holds_of_cond 4 Tryd.f4 rfl rfl rfl rfl rfl rfl rfl ⟨rfl, rfl, rfl, rfl, rfl⟩ rfl rfl rfl rfl rfl (by kernel_rfl) Tryd.func4 (by kernel_rfl)
    (of_decide_eq_true (by kernel_rfl)) (by unfold Func.isWrapper; first | (rw [if_pos (by decide +kernel)]; kernel_rfl) | (rw [if_neg (by decide +kernel)]; exact ⟨rfl, rfl⟩))
    (fun os started H enc _ F => by rw [OpenClaim.pre_eq_preRow]; exact lifted os started H enc F)

theorem plain (f : FuncId) (fn : Func) (hf : Tryd.pinned.checked.prog.funcNamed "assent/assentlaw12.FabricPlays" = some f) (hfn : Tryd.pinned.checked.prog.funcs[f]? = some fn) :
    true = Tryd.pinned.checked.prog.looks [] ∧ ∀ (j : Nat) t, fn.params[j]? = some t → Tryd.pinned.checked.prog.wantsStandIn t = false := by
  obtain rfl : f = 4 := Option.some.inj ((show Tryd.prog.funcNamed "assent/assentlaw12.FabricPlays" = some 4 by kernel_rfl).symm.trans hf) |>.symm
  obtain rfl : fn = Tryd.f4 := (Option.some.inj (Tryd.func4.symm.trans hfn)).symm
  refine ⟨by kernel_rfl, fun j t ht => ?_⟩
  rw [Tryd.params4] at ht
  have hm : t = 3 ∨ t = 3 ∨ t = 40 := by simpa using Array.mem_of_getElem? ht
  rcases hm with rfl | rfl | rfl
  · exact (show Tryd.prog.wantsStandIn 3 = false by kernel_rfl)
  · exact (show Tryd.prog.wantsStandIn 3 = false by kernel_rfl)
  · exact (show Tryd.prog.wantsStandIn 40 = false by kernel_rfl)
end FFabricPlays

theorem fabricPlays_card : Rows.FabricPlaysCardSaid :=
  Claim7.holds_tied_plain_at .later [] _ _ _ _ FFabricPlays.said (fun _ h => by cases h) (by kernel_rfl) (fun _ h => by cases h) fabricPlays_row_tie rfl ⟨rfl, rfl⟩ (by kernel_rfl) rfl FFabricPlays.plain (by kernel_rfl)
end Go.Proofs.YtakomlmbdienpaaDoor
