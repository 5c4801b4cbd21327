/- DERIVED of the program: fault.Ops over a way of Faults down to a sentinel. Own work. -/
import Derived.Test.YtbjjabfeaacpkaaDoorAnyA
import Derived.Deep.AppendLies
namespace Go.Proofs.YtbjjabfeaacpkaaDoor
open Go.RowKit Go.Extern.Stop Go.Stop Go.Extern

theorem ownsRow_below {B base : Nat} {w w' : World} {e : TypeId} {size : Nat} {v : Value} {n : Nat} {xs : List Value} (h : w.ownsRow base e size v n xs) (hb : Below B w w') (hB : w.heap.size ≤ B) : w'.ownsRow base e size v n xs := by
  obtain ⟨h1, h2⟩ := h
  refine ⟨h1, ?_⟩
  rcases h2 with h2 | ⟨g, cap, cur, hv, hg, hh, r⟩
  · exact .inl h2
  · have hlt : g < w.heap.size := by
      rcases Nat.lt_or_ge g w.heap.size with h' | h'
      · exact h'
      · rw [Array.getElem?_eq_none h'] at hh; cases hh
    exact .inr ⟨g, cap, cur, hv, hg, (hb.block g (by omega)).trans hh, r⟩
theorem ownBlock_lt {w : World} {base : Nat} {e : TypeId} {size : Nat} {v : Value} {n : Nat} {xs : List Value} (h : w.ownsRow base e size v n xs) : ∀ k, v.ownBlock = some k → base ≤ k ∧ k < w.heap.size := by
  obtain ⟨h1, h2⟩ := h
  rcases h2 with ⟨rfl, _⟩ | ⟨g, cap, cur, rfl, hg, hh, r⟩
  · intro k hk; simp [Value.ownBlock] at hk
  · intro k hk
    simp [Value.ownBlock] at hk
    subst hk
    refine ⟨hg, ?_⟩
    rcases Nat.lt_or_ge g w.heap.size with h' | h'
    · exact h'
    · rw [Array.getElem?_eq_none h'] at hh; cases hh

theorem Tryd.infoString : (Tryd.prog.info? 9).map (fun i => (i.zero, i.size, i.bytes)) = some (some (.string ⟨#[]⟩), 1, 16) := by kernel_rfl

/-- The first k Ops of a way, as values. -/
def opv (l : List (ByteArray × Int)) (k : Nat) : List Value := (l.take k).map fun x => .string x.1
theorem opv_succ (l : List (ByteArray × Int)) (k : Nat) (h : k < l.length) : opv l (k + 1) = opv l k ++ [.string l[k].1] := by
  unfold opv; rw [List.take_succ_eq_append_getElem h, List.map_append]; rfl

set_option maxHeartbeats 1600000 in
theorem ops_chn (l : List (ByteArray × Int)) (a : Addr) (w : World) (hl : l.length ≤ 1000000) (hg : ET w) :
    Calls Tryd.prog 13 #[chn l (snt a)] w fun r w' => ∃ v, r = .returned v ∧ w'.ownsRow w.heap.size 9 1 v l.length (opv l l.length) ∧ Below w.heap.size w w' := by
  obtain ⟨i0, hi, hz0, hz1, hz2⟩ := info_parts Tryd.infoString
  have HI := Hid.in (And.intro hi (And.intro hz0 (And.intro hz1 hz2)))
  clear hi hz0 hz1 hz2
  rw [← cur_zero]
  have HS := Hid.in (strays_chn l a w)
  rw [← cur_zero] at HS
  have HG := Hid.in hg
  clear hg
  go_enter Tryd.func13, Tryd.ntmps13
  go_wp2_with fail
  refine HS.out.mono ?_
  rintro r w1 ⟨rfl, hb1⟩
  have HB1 := Hid.in hb1
  clear hb1
  go_wp2
  go_loopw [0, 3] (fun e v wr => ∃ k : Nat, k ≤ l.length ∧ e = cur l a k ∧ wr.ownsRow w.heap.size 9 1 v k (opv l k) ∧ Below w.heap.size w wr) (fun e _ _ => SizeOf.sizeOf e)
  case atStart => exact ⟨0, Nat.zero_le _, rfl, World.ownsRow_nil _ _ _ _, HB1.out⟩
  case round =>
    obtain ⟨k, hk, rfl, hown, hb⟩ := hrel
    have HB := Hid.in hb
    have HO := Hid.in hown
    clear hb hown
    rcases Nat.lt_or_eq_of_le hk with hlt | heq
    · have hcu := cur_lt l a k hlt
      have hne : ∃ t v, cur l a (k + 1) = .iface t v := by
        rcases Nat.lt_or_eq_of_le hlt with h | h
        · exact ⟨_, _, cur_lt l a _ h⟩
        · exact ⟨_, _, cur_eq l a _ h⟩
      obtain ⟨t', v', he'⟩ := hne
      rw [hcu, he']
      have HE := Hid.in he'
      clear he' hcu
      go_wp2_with fail
      refine (find_flt _ _ _ (.inr ⟨_, _, rfl⟩) _ (HG.out.below HB.out HG.out.lt)).mono ?_
      rintro r w2 ⟨rfl, hb2⟩
      have HO2 := Hid.in (ownsRow_below HO.out hb2 (Nat.le_refl _))
      have HB2 := Hid.in (bstep HB.out (Nat.le_refl _) hb2)
      clear hb2
      go_wp2_with (at_builtin; refine wpList_append_lies _ rfl _ _ 32 rfl w.heap.size 9 i0 (.string ⟨#[]⟩) 1 16 Tryd.underlying32 HI.out.1 HI.out.2.1 HI.out.2.2.1 HI.out.2.2.2 rfl (by decide) _ _ _ rfl (ownsRow_below HO2.out (((Below.refl _ _).alloc (Nat.le_refl _) _).alloc (by simp) _) (Nat.le_refl _)) ⟨w2.heap.size + 1, 0, none⟩ 1 1 [.string l[k].1] rfl rfl ?c1 ?c2 (by decide) ?c3 ?c4 ?c5 _ rfl ?_)
      case c1 =>
        intro j u hj
        match j, hj with
        | 0, hj => simp at hj; subst hj; simp [Addr.add, go_sem]
      case c2 => intro u hu; simp at hu; subst hu; rfl
      case c3 => unfold maxLen; omega
      case c4 => omega
      case c5 => have := HB2.out.size; simp; omega
      intro g cap w3 hown3 hgrow hat hlt3
      have hne : some w2.heap.size ≠ u3.ownBlock := fun h => by have := (ownBlock_lt HO2.out _ h.symm).2; omega
      have hc3 : w3.cell? ⟨w2.heap.size, 2, none⟩ = some (.iface t' v') := (hgrow.cell_far ⟨w2.heap.size, 2, none⟩ (by simp; omega) hne).trans (by simp [go_sem])
      have HO3 := Hid.in hown3
      rw [← opv_succ l k hlt] at HO3
      have HB3 : Hid (Below w.heap.size w w3) := Hid.in (((HB2.out.alloc HB2.out.size _).alloc (by have := HB2.out.size; simp; omega) _).grown hgrow (by have := HB2.out.size; simp; omega) (fun k hk => (ownBlock_lt HO2.out _ hk).1))
      clear hown3 hgrow hat hlt3 hne
      go_wp2
      go_roundw
      case rel => exact ⟨k + 1, hlt, HE.out.symm, HO3.out, HB3.out⟩
      case measure => exact size_flt _ _ _
    · have hcu := cur_eq l a k heq
      have HK := Hid.in heq
      clear heq
      rw [hcu]
      clear hcu
      go_wp2_with fail
      refine (find_snt _ _ (HG.out.below HB.out HG.out.lt)).mono ?_
      rintro r w2 ⟨rfl, hb2⟩
      have HO2 := Hid.in (ownsRow_below HO.out hb2 (Nat.le_refl _))
      have HB2 := Hid.in (bstep HB.out (Nat.le_refl _) hb2)
      clear hb2
      go_wp2
      go_ret
      refine ⟨_, rfl, ?_, HB2.out.alloc HB2.out.size _⟩
      have h1 := HO2.out
      rw [HK.out] at h1
      exact ownsRow_below h1 ((Below.refl _ _).alloc (Nat.le_refl _) _) (Nat.le_refl _)

theorem ops_nil (w : World) : Calls Tryd.prog 13 #[.nilIface] w fun r w' => r = .returned (.slice none 0 0) ∧ Below w.heap.size w w' := by
  go_enter Tryd.func13, Tryd.ntmps13
  go_wp2_with fail
  refine (strays_nil _).mono ?_
  rintro r w1 ⟨rfl, hb1⟩
  go_wp2
  refine wp_loop_rounds 1 ?_
  rw [rounds_succ]
  go_wp2
  go_ret
  exact ⟨rfl, hb1⟩
theorem root_nil (w : World) : Calls Tryd.prog 11 #[.nilIface] w fun r w' => r = .returned .nilIface ∧ w' = w := by
  go_enter Tryd.func11, Tryd.ntmps11
  go_wp2
  refine wp_loop_rounds 1 ?_
  rw [rounds_succ]
  go_wp2
  go_ret
  exact ⟨rfl, rfl⟩
end Go.Proofs.YtbjjabfeaacpkaaDoor
