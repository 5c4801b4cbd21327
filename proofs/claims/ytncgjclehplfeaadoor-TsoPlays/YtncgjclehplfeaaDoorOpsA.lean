/- DERIVED of the program: fault.itself and fault.Ops over a way of Faults down to a sentinel. Own work. -/
import Derived.Test.YtncgjclehplfeaaDoorAnyA
import Derived.Deep.AppendLies
namespace Go.Proofs.YtncgjclehplfeaaDoor
open Go.RowKit Go.Extern.Stop Go.Stop Go.Extern

theorem ownsRow_below {B base : Nat} {w w' : World} {e : TypeId} {size : Nat} {v : Value} {n : Nat} {xs : List Value} (h : w.ownsRow base e size v n xs) (hb : Below B w w') (hB : w.heap.size ≤ B) : w'.ownsRow base e size v n xs := by
  obtain ⟨h1, h2⟩ := h
  refine ⟨h1, ?_⟩
  rcases h2 with h2 | ⟨g, cap, cur, hv, hg, hh, r⟩
  · exact .inl h2
  · have hlt : g < w.heap.size := by
      rcases Nat.lt_or_ge g w.heap.size with h' | h'
      · exact h'
      · rw [Array.getElem?_eq_none h'] at hh; cases hh
    exact .inr ⟨g, cap, cur, hv, hg, (hb.block g (by omega)).trans hh, r⟩

theorem ownBlock_lt {w : World} {base : Nat} {e : TypeId} {size : Nat} {v : Value} {n : Nat} {xs : List Value} (h : w.ownsRow base e size v n xs) : ∀ k, v.ownBlock = some k → base ≤ k ∧ k < w.heap.size := by
  obtain ⟨h1, h2⟩ := h
  rcases h2 with ⟨rfl, _⟩ | ⟨g, cap, cur, rfl, hg, hh, r⟩
  · intro k hk; simp [Value.ownBlock] at hk
  · intro k hk
    simp [Value.ownBlock] at hk
    subst hk
    refine ⟨hg, ?_⟩
    rcases Nat.lt_or_ge g w.heap.size with h' | h'
    · exact h'
    · rw [Array.getElem?_eq_none h'] at hh; cases hh

theorem Tryd.infoString : (Tryd.prog.info? 9).map (fun i => (i.zero, i.size, i.bytes)) = some (some (.string ⟨#[]⟩), 1, 16) := by kernel_rfl

/-- The first k Ops of a way, as values. -/
def opv (l : List (ByteArray × Int)) (k : Nat) : List Value := (l.take k).map fun x => .string x.1

theorem opv_succ (l : List (ByteArray × Int)) (k : Nat) (h : k < l.length) : opv l (k + 1) = opv l k ++ [.string l[k].1] := by
  unfold opv; rw [List.take_succ_eq_append_getElem h, List.map_append]; rfl

theorem Tryd.isFault (x y z : Value) (w : World) : (Instr.typeAssert (.iface 74 (.agg #[x, y, z])) 29 74 true).run Tryd.prog w = .ok (.tuple #[.agg #[x, y, z], .bool true]) w := by kernel_rfl
theorem Tryd.noFault (v : Value) (w : World) : (Instr.typeAssert (.iface 134 v) 29 74 true).run Tryd.prog w = .ok (.tuple #[flt0, .bool false]) w := by kernel_rfl

theorem itself_flt (op : ByteArray) (n : Int) (e : Value) (he : isIf e) (w : World) :
    Calls Tryd.prog 33 #[flt op n e] w fun r w' => r = .returned (.tuple #[.agg #[.string op, .int .i64 n, e], .bool true]) ∧ Below w.heap.size w w' := by
  have h1 := Tryd.isFault
  rcases he with rfl | ⟨t', v', rfl⟩
  · go_enter Tryd.func33, Tryd.ntmps33
    go_wp2
    exact bodyPost_ret (v := .tuple #[.agg #[.string op, .int .i64 n, .nilIface], .bool true]) (by simp [results, Tryd.results33, go_sem]) rfl ⟨rfl, ((Below.refl _ _).alloc (Nat.le_refl _) _).alloc (by simp) _⟩
  · go_enter Tryd.func33, Tryd.ntmps33
    go_wp2
    exact bodyPost_ret (v := .tuple #[.agg #[.string op, .int .i64 n, .iface t' v'], .bool true]) (by simp [results, Tryd.results33, go_sem]) rfl ⟨rfl, ((Below.refl _ _).alloc (Nat.le_refl _) _).alloc (by simp) _⟩
theorem itself_snt (a : Addr) (w : World) :
    Calls Tryd.prog 33 #[snt a] w fun r w' => r = .returned (.tuple #[flt0, .bool false]) ∧ Below w.heap.size w w' := by
  have h1 := Tryd.noFault
  go_enter Tryd.func33, Tryd.ntmps33
  go_wp2
  exact bodyPost_ret (v := .tuple #[flt0, .bool false]) (by simp [results, Tryd.results33, go_sem]) rfl ⟨rfl, ((Below.refl _ _).alloc (Nat.le_refl _) _).alloc (by simp) _⟩

set_option maxHeartbeats 1600000 in
theorem ops_chn (l : List (ByteArray × Int)) (a : Addr) (w : World) (hl : l.length ≤ 1000000) :
    Calls Tryd.prog 14 #[chn l (snt a)] w fun r w' => ∃ v, r = .returned v ∧ w'.ownsRow w.heap.size 9 1 v l.length (opv l l.length) ∧ Below w.heap.size w w' := by
  obtain ⟨i0, hi, hz0, hz1, hz2⟩ := info_parts Tryd.infoString
  have HI := Hid.in (And.intro hi (And.intro hz0 (And.intro hz1 hz2)))
  clear hi hz0 hz1 hz2
  rw [← cur_zero]
  go_enter Tryd.func14, Tryd.ntmps14
  go_wp2
  go_loopw [0, 3] (fun e v wr => ∃ k : Nat, k ≤ l.length + 1 ∧ e = cur l a k ∧ wr.ownsRow w.heap.size 9 1 v (min k l.length) (opv l (min k l.length)) ∧ Below w.heap.size w wr) (fun e _ _ => SizeOf.sizeOf e)
  case atStart => exact ⟨0, Nat.zero_le _, rfl, by rw [Nat.zero_min]; exact World.ownsRow_nil _ _ _ _, Below.refl _ _⟩
  case round =>
    obtain ⟨k, hk, rfl, hown, hb⟩ := hrel
    have HB := Hid.in hb
    have HO := Hid.in hown
    clear hb hown
    rcases Nat.lt_trichotomy k l.length with hlt | heq | hgt
    · have hcu := cur_lt l a k hlt
      have hne : ∃ t v, cur l a (k + 1) = .iface t v := by
        rcases Nat.lt_or_eq_of_le hlt with h | h
        · exact ⟨_, _, cur_lt l a _ h⟩
        · exact ⟨_, _, cur_eq l a _ h⟩
      obtain ⟨t', v', he'⟩ := hne
      rw [Nat.min_eq_left (Nat.le_of_lt hlt)] at HO
      rw [hcu, he']
      have HE := Hid.in he'
      clear he' hcu
      go_wp2_with fail
      refine (itself_flt _ _ _ (.inr ⟨_, _, rfl⟩) _).mono ?_
      rintro r w2 ⟨rfl, hb2⟩
      have HO2 := Hid.in (ownsRow_below HO.out hb2 (Nat.le_refl _))
      have HB2 := Hid.in (bstep HB.out (Nat.le_refl _) hb2)
      clear hb2
      go_wp2_with (at_builtin; refine wpList_append_lies _ rfl _ _ 35 rfl w.heap.size 9 i0 (.string ⟨#[]⟩) 1 16 Tryd.underlying35 HI.out.1 HI.out.2.1 HI.out.2.2.1 HI.out.2.2.2 rfl (by decide) _ _ _ rfl (ownsRow_below HO2.out (((Below.refl _ _).alloc (Nat.le_refl _) _).alloc (by simp) _) (Nat.le_refl _)) ⟨w2.heap.size + 1, 0, none⟩ 1 1 [.string l[k].1] rfl rfl ?c1 ?c2 (by decide) ?c3 ?c4 ?c5 _ rfl ?_)
      case c1 =>
        intro j u hj
        match j, hj with
        | 0, hj => simp at hj; subst hj; simp [Addr.add, go_sem]
      case c2 => intro u hu; simp at hu; subst hu; rfl
      case c3 => unfold maxLen; omega
      case c4 => omega
      case c5 => have := HB2.out.size; simp; omega
      intro g cap w3 hown3 hgrow hat hlt3
      have HO3 := Hid.in hown3
      rw [← opv_succ l k hlt] at HO3
      have HB3 : Hid (Below w.heap.size w w3) := Hid.in (((HB2.out.alloc HB2.out.size _).alloc (by have := HB2.out.size; simp; omega) _).grown hgrow (by have := HB2.out.size; simp; omega) (fun k hk => (ownBlock_lt HO2.out _ hk).1))
      clear hown3 hgrow hat hlt3
      go_wp2_with fail
      refine (below_flt _ _ _ (.inr ⟨_, _, rfl⟩) _).mono ?_
      rintro r w4 ⟨rfl, hb4⟩
      have HO4 := Hid.in (ownsRow_below HO3.out hb4 (Nat.le_refl _))
      have HB4 := Hid.in (bstep HB3.out (Nat.le_refl _) hb4)
      clear hb4
      go_wp2
      go_roundw
      case rel => exact ⟨k + 1, by omega, HE.out.symm, by rw [Nat.min_eq_left hlt]; exact HO4.out, HB4.out⟩
      case measure => exact size_flt _ _ _
    · have hcu := cur_eq l a k heq
      have hcv := cur_gt l a (k + 1) (by omega)
      have HK := Hid.in heq
      have HV := Hid.in hcv
      clear heq hcv
      rw [hcu]
      clear hcu
      go_wp2_with fail
      refine (itself_snt _ _).mono ?_
      rintro r w2 ⟨rfl, hb2⟩
      have HO2 := Hid.in (ownsRow_below HO.out hb2 (Nat.le_refl _))
      have HB2 := Hid.in (bstep HB.out (Nat.le_refl _) hb2)
      clear hb2
      go_wp2_with fail
      refine (below_snt _ _).mono ?_
      rintro r w4 ⟨rfl, hb4⟩
      have HO4 := Hid.in (ownsRow_below (ownsRow_below HO2.out ((Below.refl _ _).alloc (Nat.le_refl _) _) (Nat.le_refl _)) hb4 (Nat.le_refl _))
      have HB4 := Hid.in (bstep (HB2.out.alloc HB2.out.size _) (Nat.le_refl _) hb4)
      clear hb4
      go_wp2
      go_roundw
      case rel => exact ⟨k + 1, by have := HK.out; omega, HV.out.symm, by have h := HO4.out; rw [HK.out] at h ⊢; simpa using h, HB4.out⟩
      case measure => exact size_snt _
    · have hcu := cur_gt l a k hgt
      rw [Nat.min_eq_right (Nat.le_of_lt hgt)] at HO
      rw [hcu]
      clear hcu hgt
      go_wp2
      go_ret
      exact ⟨_, rfl, HO.out, HB.out⟩

theorem ops_nil (w : World) : Calls Tryd.prog 14 #[.nilIface] w fun r w' => r = .returned (.slice none 0 0) ∧ w' = w := by
  go_enter Tryd.func14, Tryd.ntmps14
  go_wp2
  refine wp_loop_rounds 1 ?_
  rw [rounds_succ]
  go_wp2
  go_ret
  exact ⟨rfl, rfl⟩
end Go.Proofs.YtncgjclehplfeaaDoor
