/- MsgTells: for every message, bytes, number, byte and number the call returns true, and the arguments read as they did, in every world whose listed package variables are as the text of the program lays them. No condition besides. -/
import Derived.Test.YtgepfbaojogccaaDoorSgTells
import Derived.Test.YtgepfbaojogccaaDoorGenMsg
import Derived.Test.YtgepfbaojogccaaDoorPkI
import Derived.Test.YtgepfbaojogccaaDoorCards
import Derived.Test.YtgepfbaojogccaaDoorTie
import Derived.ProofKit
import Derived.OpenShut
import Derived.Carry
import Derived.ChangeMaps5
import Derived.Deep.DeepHandedRow
namespace Go.Proofs.YtgepfbaojogccaaDoor
open Go.ChangeShapes Go.WideShapes Go.ChangeAt Go.RowKit Go.ChangeMaps
namespace FMsgTells

theorem own : ownKnob Tryd.prog.godebug = none := by kernel_rfl
theorem laidOut : laidOutB Tryd.prog = true := by kernel_rfl

set_option maxRecDepth 100000 in
theorem contract (H : Type) (enc : TypeId × Value → H) (W : World) (base : Nat) (args : Array Value) (ds gs : List (DataW H)) (before : List MemPlace)
    (hval : ∀ (j : Nat) t v, Tryd.f4.params[j]? = some t → args[j]? = some v → Value.okWide Tryd.prog W .any base t v)
    (hW : DataW.Whole enc Tryd.prog Tryd.f4.params.toList Rows.msgTellsSpec.vars false W args.toList ds gs before) (hsz0 : (DataW.weightsEach Tryd.prog (Tryd.f4.params.toList ++ Rows.msgTellsSpec.plain.varTypes Tryd.prog) (ds ++ gs)).all (· ≤ reachBytes) = true) (hL : laidMetH Tryd.prog Rows.msgTellsRow.laid W) :
    Calls Tryd.prog 4 args W fun e W' => ∃ v, e = .returned v ∧ Rows.msgTellsSpec.post enc Tryd.prog Tryd.f4 false true false false W args v W' := by
  have hW' := hW
  obtain ⟨p, q, hA0, hV, rfl, hfz, hnd⟩ := hW
  have hA : DataW.TrodAll enc Tryd.prog W 0 (fun _ => true) true Tryd.f4.params.toList args.toList ds p := hA0
  rw [Tryd.params4] at hA hval
  obtain ⟨v0, vs0, d0, ds0, p0, q0, hargs, rfl, rfl, h0, r0⟩ := trodAll_cons hA
  obtain ⟨v1, vs1, d1, ds1, p1, q1, rfl, rfl, rfl, h1, r1⟩ := trodAll_cons r0
  obtain ⟨v2, vs2, d2, ds2, p2, q2, rfl, rfl, rfl, h2, r2⟩ := trodAll_cons r1
  obtain ⟨v3, vs3, d3, ds3, p3, q3, rfl, rfl, rfl, h3, r3⟩ := trodAll_cons r2
  obtain ⟨v4, vs4, d4, ds4, p4, q4, rfl, rfl, rfl, h4, r4⟩ := trodAll_cons r3
  obtain ⟨rfl, rfl, rfl⟩ := trodAll_nil r4
  obtain rfl : args = #[v0, v1, v2, v3, v4] := Array.toList_inj.1 hargs
  obtain ⟨rfl, rfl⟩ := trodVars_none hV
  have hsz : (DataW.weightsEach Tryd.prog [28, 22, 3, 5, 3] [d0, d1, d2, d3, d4]).all (· ≤ reachBytes) = true := by
    have h : (DataW.weightsEach Tryd.prog (Tryd.f4.params.toList ++ []) ([d0, d1, d2, d3, d4] ++ [])).all (· ≤ reachBytes) = true := hsz0
    rw [Tryd.params4] at h
    simpa using h
  have k0 := h0
  have hlt0 : ∀ x ∈ p0, x.block < W.heap.size := fun x hx => hW'.lt x (by simp [hx])
  have k1 := h1
  have hlt1 : ∀ x ∈ p1, x.block < W.heap.size := fun x hx => hW'.lt x (by simp [hx])
  obtain ⟨m0, rfl, hm0, hn0⟩ := open_msg (hval 0 28 v0 rfl rfl) h0
  obtain ⟨ao1, cap1, bs1, rfl, hI1, hby1, hln1⟩ := open_bytes (hval 1 22 v1 rfl rfl) h1 _ _ hsz 1 rfl rfl
  obtain ⟨n2, rfl, rfl, rfl, wf2⟩ := open_int Tryd.underlying3 (hval 2 3 v2 rfl rfl) h2
  obtain ⟨n3, rfl, rfl, rfl, wf3⟩ := open_int Tryd.underlying5 (hval 3 5 v3 rfl rfl) h3
  obtain ⟨n4, rfl, rfl, rfl, wf4⟩ := open_int Tryd.underlying3 (hval 4 3 v4 rfl rfl) h4
  clear hA0
  simp only [List.append_nil] at hW'
  obtain ⟨sa, hE⟩ := env10_of_laid hL
  refine (msgTells_any W sa hE m0 hm0 hn0 ao1 cap1 bs1 hI1 hby1 (Nat.le_trans hln1 (by decide)) n2 n3 (bounds_u8 wf3) n4).mono fun e W' ⟨he, hg⟩ => ?_
  subst he
  refine ⟨_, rfl, _, _, _, [], _, [], hW', ?_, trodAll_cons_mk (Below.trod laidOut (by kernel_rfl) (of_decide_eq_true (by kernel_rfl)) k0 hg hlt0) (trodAll_cons_mk (Below.trod laidOut (by kernel_rfl) (of_decide_eq_true (by kernel_rfl)) k1 hg hlt1) (trodAll_cons_mk (shut_int Tryd.underlying3 wf2) (trodAll_cons_mk (shut_int Tryd.underlying5 wf3) (trodAll_cons_mk (shut_int Tryd.underlying3 wf4) (trodAll_mk0))))), ?_, hg.frame _, fun h => by cases h⟩
  · exact trodAll_cons_mk (shut_bool Tryd.underlying4 _) trodAll_mk0
  · rfl

theorem witness (os : Os) (H : Type) (enc : TypeId × Value → H) : ∃ w0 : World, w0.os = os ∧
    (w0.forCall (fun _ _ => 0) ⟨#[], #[.agg #[.int .i64 0, .int .i64 0, .int .i64 0, .int .i64 0, .int .i64 0, .int .i64 0, .int .i64 0, .int .u32 0, .int .u32 0, .int .u32 0, .int .u32 0, .int .u32 0, .bool false], .slice none 0 0, .int .i64 0, .int .u8 0, .int .i64 0], []⟩).variablesB Tryd.checked.prog = true ∧
    ((w0.forCall (fun _ _ => 0) ⟨#[], #[.agg #[.int .i64 0, .int .i64 0, .int .i64 0, .int .i64 0, .int .i64 0, .int .i64 0, .int .i64 0, .int .u32 0, .int .u32 0, .int .u32 0, .int .u32 0, .int .u32 0, .bool false], .slice none 0 0, .int .i64 0, .int .u8 0, .int .i64 0], []⟩).heap.toList.drop Tryd.checked.prog.globals.size).take ((begin Tryd.checked.prog (fun _ _ => 0) default).world.heap.size - Tryd.checked.prog.globals.size) = (begin Tryd.checked.prog (fun _ _ => 0) default).world.heap.toList.drop Tryd.checked.prog.globals.size ∧
    Input.okWideB Tryd.checked.prog (w0.forCall (fun _ _ => 0) ⟨#[], #[.agg #[.int .i64 0, .int .i64 0, .int .i64 0, .int .i64 0, .int .i64 0, .int .i64 0, .int .i64 0, .int .u32 0, .int .u32 0, .int .u32 0, .int .u32 0, .int .u32 0, .bool false], .slice none 0 0, .int .i64 0, .int .u8 0, .int .i64 0], []⟩) 4 ⟨#[], #[.agg #[.int .i64 0, .int .i64 0, .int .i64 0, .int .i64 0, .int .i64 0, .int .i64 0, .int .i64 0, .int .u32 0, .int .u32 0, .int .u32 0, .int .u32 0, .int .u32 0, .bool false], .slice none 0 0, .int .i64 0, .int .u8 0, .int .i64 0], []⟩ = true ∧
    (OpenSpec.ofChange Rows.msgTellsSpec).preRow enc Tryd.checked.prog Tryd.f4 Rows.msgTellsRow.domain false Rows.msgTellsRow.laid (w0.forCall (fun _ _ => 0) ⟨#[], #[.agg #[.int .i64 0, .int .i64 0, .int .i64 0, .int .i64 0, .int .i64 0, .int .i64 0, .int .i64 0, .int .u32 0, .int .u32 0, .int .u32 0, .int .u32 0, .int .u32 0, .bool false], .slice none 0 0, .int .i64 0, .int .u8 0, .int .i64 0], []⟩).memory #[.agg #[.int .i64 0, .int .i64 0, .int .i64 0, .int .i64 0, .int .i64 0, .int .i64 0, .int .i64 0, .int .u32 0, .int .u32 0, .int .u32 0, .int .u32 0, .int .u32 0, .bool false], .slice none 0 0, .int .i64 0, .int .u8 0, .int .i64 0] := by
  refine ⟨{ World.holding Tryd.prog os ⟨#[.cells #[.string ⟨#[97, 110, 32, 97, 114, 103, 117, 109, 101, 110, 116, 32, 116, 104, 97, 116, 32, 99, 97, 110, 39, 116, 32, 98, 101]⟩] 128, .cells #[.string ⟨#[116, 111, 111, 32, 108, 111, 110, 103]⟩] 128, .cells #[.string ⟨#[116, 111, 111, 32, 115, 104, 111, 114, 116]⟩] 128, .cells #[.string ⟨#[110, 111, 116, 32, 105, 110, 32, 102, 111, 114, 109]⟩] 128, .cells #[.string ⟨#[115, 111, 109, 101, 116, 104, 105, 110, 103, 32, 108, 101, 102, 116, 32, 111, 118, 101, 114]⟩] 128, .cells #[.string ⟨#[110, 111, 32, 114, 111, 111, 109]⟩] 128, .cells #[.string ⟨#[117, 110, 100, 101, 114, 32, 119, 97, 121]⟩] 128, .cells #[.string ⟨#[116, 104, 101, 114, 101, 32, 105, 115, 32, 110, 111, 110, 101]⟩] 128, .cells #[.string ⟨#[110, 111, 116, 32, 105, 110, 32, 111, 114, 100, 101, 114]⟩] 128, .cells #[.string ⟨#[97, 110, 111, 116, 104, 101, 114, 32, 118, 97, 108, 117, 101]⟩] 128], #[], []⟩ with
    heap := (((((((((((World.holding Tryd.prog os ⟨#[.cells #[.string ⟨#[97, 110, 32, 97, 114, 103, 117, 109, 101, 110, 116, 32, 116, 104, 97, 116, 32, 99, 97, 110, 39, 116, 32, 98, 101]⟩] 128, .cells #[.string ⟨#[116, 111, 111, 32, 108, 111, 110, 103]⟩] 128, .cells #[.string ⟨#[116, 111, 111, 32, 115, 104, 111, 114, 116]⟩] 128, .cells #[.string ⟨#[110, 111, 116, 32, 105, 110, 32, 102, 111, 114, 109]⟩] 128, .cells #[.string ⟨#[115, 111, 109, 101, 116, 104, 105, 110, 103, 32, 108, 101, 102, 116, 32, 111, 118, 101, 114]⟩] 128, .cells #[.string ⟨#[110, 111, 32, 114, 111, 111, 109]⟩] 128, .cells #[.string ⟨#[117, 110, 100, 101, 114, 32, 119, 97, 121]⟩] 128, .cells #[.string ⟨#[116, 104, 101, 114, 101, 32, 105, 115, 32, 110, 111, 110, 101]⟩] 128, .cells #[.string ⟨#[110, 111, 116, 32, 105, 110, 32, 111, 114, 100, 101, 114]⟩] 128, .cells #[.string ⟨#[97, 110, 111, 116, 104, 101, 114, 32, 118, 97, 108, 117, 101]⟩] 128], #[], []⟩).heap.modify 2 fun
      | .cells _ t frozen => .cells #[snt ⟨(World.holding Tryd.prog default ⟨#[], #[], []⟩).heap.size + 0, 0, none⟩] t frozen
      | o => o).modify 3 fun
      | .cells _ t frozen => .cells #[snt ⟨(World.holding Tryd.prog default ⟨#[], #[], []⟩).heap.size + 1, 0, none⟩] t frozen
      | o => o).modify 4 fun
      | .cells _ t frozen => .cells #[snt ⟨(World.holding Tryd.prog default ⟨#[], #[], []⟩).heap.size + 2, 0, none⟩] t frozen
      | o => o).modify 0 fun
      | .cells _ t frozen => .cells #[snt ⟨(World.holding Tryd.prog default ⟨#[], #[], []⟩).heap.size + 3, 0, none⟩] t frozen
      | o => o).modify 1 fun
      | .cells _ t frozen => .cells #[snt ⟨(World.holding Tryd.prog default ⟨#[], #[], []⟩).heap.size + 4, 0, none⟩] t frozen
      | o => o).modify 5 fun
      | .cells _ t frozen => .cells #[snt ⟨(World.holding Tryd.prog default ⟨#[], #[], []⟩).heap.size + 5, 0, none⟩] t frozen
      | o => o).modify 6 fun
      | .cells _ t frozen => .cells #[snt ⟨(World.holding Tryd.prog default ⟨#[], #[], []⟩).heap.size + 6, 0, none⟩] t frozen
      | o => o).modify 7 fun
      | .cells _ t frozen => .cells #[snt ⟨(World.holding Tryd.prog default ⟨#[], #[], []⟩).heap.size + 7, 0, none⟩] t frozen
      | o => o).modify 8 fun
      | .cells _ t frozen => .cells #[snt ⟨(World.holding Tryd.prog default ⟨#[], #[], []⟩).heap.size + 8, 0, none⟩] t frozen
      | o => o).modify 9 fun
      | .cells _ t frozen => .cells #[snt ⟨(World.holding Tryd.prog default ⟨#[], #[], []⟩).heap.size + 9, 0, none⟩] t frozen
      | o => o).modify 10 fun
      | .cells _ t frozen => .cells #[rty 30] t frozen
      | o => o }, rfl, by kernel_rfl, by kernel_rfl, by kernel_rfl, ?_⟩
  refine OpenSpec.preRow_of_cond 8 (x := ([.agg [.lit (.int .i64 0), .lit (.int .i64 0), .lit (.int .i64 0), .lit (.int .i64 0), .lit (.int .i64 0), .lit (.int .i64 0), .lit (.int .i64 0), .lit (.int .u32 0), .agg [.lit (.int .u32 0), .lit (.int .u32 0), .lit (.int .u32 0), .lit (.int .u32 0)], .lit (.bool false)], .nil, .lit (.int .i64 0), .lit (.int .u8 0), .lit (.int .i64 0)], [], [])) (by kernel_rfl) (by kernel_rfl) (fun k hk => by cases hk) (by kernel_rfl) ?_
  exact laidMetH_of_parts (laidMet_of_run' 8 (by kernel_rfl) (by kernel_rfl)) (by kernel_rfl)

set_option maxRecDepth 100000 in
theorem lifted (os : Os) (started : os.Started) (H : Type) (enc : TypeId × Value → H) (F : Stop.Interp) :
    ReturnsInHanded {} Tryd.checked os 4 .any ((OpenSpec.ofChange Rows.msgTellsSpec).preRow enc Tryd.prog Tryd.f4 Rows.msgTellsRow.domain false Rows.msgTellsRow.laid) (((OpenSpec.ofChange Rows.msgTellsSpec).at F).post enc Tryd.prog Tryd.f4 false true false false) := by
  obtain ⟨w0, h1, h2, h3, h4, h5⟩ := witness os H enc
  refine returnsInHanded_of_row (C := Tryd.checked) (s := (OpenSpec.ofChange Rows.msgTellsSpec)) own started (by kernel_rfl) Tryd.func4
    (witness_row_at (enc := enc) (C := Tryd.checked) false w0 #[.agg #[.int .i64 0, .int .i64 0, .int .i64 0, .int .i64 0, .int .i64 0, .int .i64 0, .int .i64 0, .int .u32 0, .int .u32 0, .int .u32 0, .int .u32 0, .int .u32 0, .bool false], .slice none 0 0, .int .i64 0, .int .u8 0, .int .i64 0] h1 h2 h3 h4 h5) ?_
  intro W base args ds gs before hval hW _ _ hsz hL _ _
  exact contract H enc W base args ds gs before hval hW hsz hL

theorem said : Rows.MsgTellsSaid :=
  OpenClaim.holds_of_cond 4 Tryd.f4 rfl rfl rfl rfl rfl rfl rfl ⟨rfl, rfl, rfl, rfl, rfl⟩ rfl rfl rfl rfl rfl (by kernel_rfl) Tryd.func4 (by kernel_rfl)
    (of_decide_eq_true (by kernel_rfl)) (by unfold Func.isWrapper; first | (rw [if_pos (by decide +kernel)]; kernel_rfl) | (rw [if_neg (by decide +kernel)]; exact ⟨rfl, rfl⟩))
    (fun os started H enc _ F => by rw [OpenClaim.pre_eq_preRow]; exact lifted os started H enc F)

theorem plain (f : FuncId) (fn : Func) (hf : Tryd.pinned.checked.prog.funcNamed "assent/assentlaw11.MsgTells" = some f) (hfn : Tryd.pinned.checked.prog.funcs[f]? = some fn) :
    true = Tryd.pinned.checked.prog.looks [] ∧ ∀ (j : Nat) t, fn.params[j]? = some t → Tryd.pinned.checked.prog.wantsStandIn t = false := by
  obtain rfl : f = 4 := Option.some.inj ((show Tryd.prog.funcNamed "assent/assentlaw11.MsgTells" = some 4 by kernel_rfl).symm.trans hf) |>.symm
  obtain rfl : fn = Tryd.f4 := (Option.some.inj (Tryd.func4.symm.trans hfn)).symm
  refine ⟨by kernel_rfl, fun j t ht => ?_⟩
  rw [Tryd.params4] at ht
  have hm : t = 28 ∨ t = 22 ∨ t = 3 ∨ t = 5 ∨ t = 3 := by simpa using Array.mem_of_getElem? ht
  rcases hm with rfl | rfl | rfl | rfl | rfl
  · exact (show Tryd.prog.wantsStandIn 28 = false by kernel_rfl)
  · exact (show Tryd.prog.wantsStandIn 22 = false by kernel_rfl)
  · exact (show Tryd.prog.wantsStandIn 3 = false by kernel_rfl)
  · exact (show Tryd.prog.wantsStandIn 5 = false by kernel_rfl)
  · exact (show Tryd.prog.wantsStandIn 3 = false by kernel_rfl)
end FMsgTells

theorem msgTells_card : Rows.MsgTellsCardSaid :=
  Claim7.holds_tied_plain_at .later [] _ _ _ _ FMsgTells.said (fun _ h => by cases h) (by kernel_rfl) (fun _ h => by cases h) msgTells_row_tie rfl ⟨rfl, rfl⟩ (by kernel_rfl) rfl FMsgTells.plain (by kernel_rfl)
end Go.Proofs.YtgepfbaojogccaaDoor
