/- DERIVED of the program: ArrayPinned returns true. Own work. -/
import Derived.Test.YtcackmmfnojpfaaDoorArFull
namespace Go.Proofs.YtcackmmfnojpfaaDoor
open Go.RowKit Go.Extern.Stop Go.Stop Go.Extern

/-- Blocks below a bound that lies behind an array: it stays. -/
theorem Arr.stay {w w' : World} {B k M : Nat} {A : List St} (h : Arr w B k A) (hb : Below M w w') (hM : B + 2 + A.length ≤ M) : Arr w' B k A := by
  obtain ⟨h1, h2⟩ := h.lt
  obtain ⟨cs, s1, s2⟩ := h.s
  refine ⟨(hb.block _ (by omega)).trans h.q, ⟨cs, (hb.block _ (by omega)).trans s1, s2⟩, fun i hi => ?_, h.nn, h.kk, h.ok⟩
  obtain ⟨c2, e1, e2⟩ := h.e i hi
  exact ⟨c2, (hb.block _ (by omega)).trans e1, e2⟩

/-- A row of the call's own, of blocks behind those that are written. -/
theorem OwnI.apart {w w' : World} {M n cap lo hi : Nat} {ao : Option Addr} {zs : List Int} (h : OwnI w M ao n cap zs) (ha : Apart lo hi w w') (hM : hi ≤ M) : OwnI w' M ao n cap zs := by
  obtain ⟨h1, h2⟩ := h
  refine ⟨h1, ?_⟩
  rcases h2 with h2 | ⟨g, cap', cur, e, hg, hh, r⟩
  · exact .inl h2
  · exact .inr ⟨g, cap', cur, e, hg, (ha.block g (blk_lt hh) (by omega)).trans hh, r⟩

/-- The lines of a home, i of them; those that are pinned. -/
def linesT (h s i : Nat) : List Int := (List.range i).map fun j => ((h + s * j : Nat) : Int)
def pinT (h s : Nat) (m : List Bool) (i : Nat) : List Int := ((List.range i).filter fun j => m.getD j false).map fun j => ((h + s * j : Nat) : Int)
theorem linesT_succ (h s i : Nat) : linesT h s (i + 1) = linesT h s i ++ [((h + s * i : Nat) : Int)] := by simp [linesT, List.range_succ]
theorem linesT_len (h s i : Nat) : (linesT h s i).length = i := by simp [linesT]
theorem linesT_get (h s i j : Nat) (hj : j < (linesT h s i).length) : (linesT h s i)[j] = ((h + s * j : Nat) : Int) := by simp [linesT]
theorem pinT_yes {h s i : Nat} {m : List Bool} (hm : m.getD i false = true) : pinT h s m (i + 1) = pinT h s m i ++ [((h + s * i : Nat) : Int)] := by
  unfold pinT; rw [List.range_succ, List.filter_append, List.map_append, List.filter_cons, if_pos hm]; rfl
theorem pinT_no {h s i : Nat} {m : List Bool} (hm : m.getD i false = false) : pinT h s m (i + 1) = pinT h s m i := by
  unfold pinT; rw [List.range_succ, List.filter_append, List.map_append, List.filter_cons, if_neg (by rw [hm]; decide)]; simp
theorem pinT_len (h s : Nat) (m : List Bool) (i : Nat) : (pinT h s m i).length ≤ i := by
  unfold pinT
  have := List.length_filter_le (fun j => m.getD j false) (List.range i)
  simpa using this

/-- All rows of k bools. -/
def allB : Nat → List (List Bool)
  | 0 => [[]]
  | k + 1 => (allB k).map (true :: ·) ++ (allB k).map (false :: ·)
theorem mem_allB : ∀ m : List Bool, m ∈ allB m.length
  | [] => by simp [allB]
  | b :: r => by
    have := mem_allB r
    cases b <;> simp [allB, this]

def okPin1 (h s k : Nat) (m : List Bool) : Bool :=
  !(roomA (fillA h s k k) ((h + s * k : Nat) : Int)) &&
  (if (pinT h s m k).length = k then decide (vicA (fillA h s k k) ((h + s * k : Nat) : Int) (pinT h s m k) = -1)
   else !((pinT h s m k).contains (vicA (fillA h s k k) ((h + s * k : Nat) : Int) (pinT h s m k))) && (getA (fillA h s k k) (vicA (fillA h s k k) ((h + s * k : Nat) : Int) (pinT h s m k))).2 && decide (vicA (fillA h s k k) ((h + s * k : Nat) : Int) (pinT h s m k ++ [31]) = vicA (fillA h s k k) ((h + s * k : Nat) : Int) (pinT h s m k)))
def okPin (s k : Nat) : Bool := (List.range s).all fun h => (allB k).all fun m => okPin1 h s k m
theorem okPin_all : ∀ s ∈ [1, 2, 4], ∀ k ∈ [1, 2, 4], okPin s k = true := by decide +kernel
theorem pin_ok {h s k : Nat} (hs : s ∈ [1, 2, 4]) (hk : k ∈ [1, 2, 4]) (hh : h < s) (m : List Bool) (hm : m.length = k) : okPin1 h s k m = true := by
  have := okPin_all s hs k hk
  unfold okPin at this
  exact List.all_eq_true.1 (List.all_eq_true.1 this h (List.mem_range.2 hh)) m (by rw [← hm]; exact mem_allB m)

/-- Which of the first k are even. -/
def evens (zs : List Int) (k : Nat) : List Bool := (List.range k).map fun j => match zs[j]? with | some z => decide (z.tmod 2 = 0) | none => false
theorem evens_len (zs : List Int) (k : Nat) : (evens zs k).length = k := by simp [evens]
theorem evens_at {zs : List Int} {k j : Nat} (h : j < k) : (evens zs k).getD j false = match zs[j]? with | some z => decide (z.tmod 2 = 0) | none => false := by
  rw [List.getD_eq_getElem?_getD]; simp [evens, h]

/-- An operation whose guard says yes. -/
theorem wpList_want {P : Program} {ops : Array Oper} {Q : Exit → Act → World → Prop} {a : Act} {w : World} {rest : List Oper} {o : Oper} (hw : Region.wanted o (yielded ops a.tmps) = true)
    (h : ∀ K : Act → World → Prop, (∀ a w, wpList P ops Q rest a w → K a w) → o.wp P a w K Q) : wpList P ops Q (o :: rest) a w :=
  wpList_step fun K hK => by simp only [hw, if_true]; exact h K hK

/-- 'append(row, n)', guarded. -/
theorem wpList_pushG {w : World} {ops : Array Oper} {rest : List Oper} {o : Oper} {a : Act} {Q : Exit → Act → World → Prop} (hgd : Region.wanted o (yielded ops a.tmps) = true) (s x : Operand)
    (ho : o.op = .call { callee := .builtin .append, args := #[s, x], argTypes := #[42, 42] }) (B : Nat) (w0 : World)
    (ao : Option Addr) (H n cap : Nat) (zs : List Int) (z : Int) (hs : a.eval s = .slice ao n cap) (hown : OwnI w B ao n cap zs) (hx : a.eval x = .slice (some ⟨H, 0, none⟩) 1 1) (hc : w.cell? ⟨H, 0, none⟩ = some (.int .i64 z))
    (hb : Below B w0 w) (hB : B ≤ w.heap.size) (hlen : n ≤ 1000)
    (h : ∀ ao' cap' w', Hid (OwnI w' B ao' (n + 1) cap' (zs ++ [z])) → Hid (Below B w0 w') → Hid (w.grownBy w' (oblk ao)) → wpList Tryd.prog ops Q rest (a.put o.dst (.slice ao' (n + 1) cap')) w') : wpList Tryd.prog ops Q (o :: rest) a w := by
  obtain ⟨i0, hi, hz0, hz1, hz2⟩ := info_parts Tryd.infoInt
  have hbl := hown.blk
  refine wpList_want hgd fun _ hK => wp_append_own w s x 42 ho B 3 i0 (.int .i64 0) 1 8 Tryd.underlying42 hi hz0 hz1 hz2 rfl (by decide) _ n _ hs hown ⟨H, 0, none⟩ 1 1 [.int .i64 z] hx rfl ?_ ?_ (by unfold maxLen; omega) (by omega) hB ?_
  · intro j u hj
    match j, hj with
    | 0, hj => simp at hj; subst hj; rw [Addr.add_lit]; exact hc
  · intro u hu; simp at hu; subst hu; rfl
  · intro v' w' hown' hgrow _
    obtain ⟨ao', cap', rfl⟩ := ownI_shape hown'
    have hob : (Value.slice ao n cap).ownBlock = oblk ao := by cases ao <;> rfl
    rw [hob] at hgrow
    refine hK _ _ (h ao' cap' w' (Hid.in ?_) (Hid.in ?_) (Hid.in hgrow))
    · unfold OwnI
      rw [ivs_append]
      exact hown'
    · exact hb.grown hgrow hB (fun k hk => (hbl k hk).1)

theorem linec (h s i : Nat) : (h : Int) + (s : Int) * (i : Int) = ((h + s * i : Nat) : Int) := by simp
theorem mul_le16' {i s : Nat} (hi : i ≤ 4) (hs : s ∈ [1, 2, 4]) : 0 ≤ (s : Int) * (i : Int) ∧ (s : Int) * (i : Int) ≤ 16 := by
  rw [Int.mul_comm]; exact mul_le16 hi hs
theorem line_rng {h s i : Nat} (hh : h < s) (hi : i ≤ 4) (hs : s ∈ [1, 2, 4]) : -9223372036854775808 ≤ ((h + s * i : Nat) : Int) ∧ ((h + s * i : Nat) : Int) ≤ 9223372036854775807 := by
  have h1 := mul_le16' hi hs
  have h2 : s = 1 ∨ s = 2 ∨ s = 4 := by simpa using hs
  rw [← linec]
  omega
theorem pin_rng {h s k : Nat} (hh : h < s) (hk : k ≤ 4) (hs : s ∈ [1, 2, 4]) (m : List Bool) : ∀ z ∈ pinT h s m k, -9223372036854775808 ≤ z ∧ z ≤ 9223372036854775807 := by
  intro z hz
  simp only [pinT, List.mem_map, List.mem_filter, List.mem_range] at hz
  obtain ⟨j, hj, rfl⟩ := hz
  exact line_rng hh (by omega) hs

theorem avictim_f (w : World) (B k : Nat) (A : List St) (hA : Arr w B k A) (l : Int) (m : Nat) (hl : l = ((m : Nat) : Int)) (ao : Option Addr) (n cap : Nat) (zs : List Int) (hn : n = zs.length) (hZ : Ints w ao cap zs) (hlen : zs.length ≤ 1000) (c : Int) (h : vicA A ((m : Nat) : Int) zs = c) :
    Calls Tryd.prog 13 #[.pointer (some ⟨B + 1, 0, none⟩), .int .i64 l, .slice ao n cap] w fun r w' => r = .returned (.int .i64 c) ∧ Below w.heap.size w w' := by
  subst hl; exact avictim_c w B k A hA _ ao n cap zs hn hZ (by omega) c h
theorem get_c (w : World) (B k : Nat) (A : List St) (hA : Arr w B k A) (l : Int) (e : En) (c : Bool) (h : getA A l = (e, c)) :
    Calls Tryd.prog 20 #[.pointer (some ⟨B + 1, 0, none⟩), .int .i64 l] w fun r w' => r = .returned (.tuple #[e.val, .bool c]) ∧ Below w.heap.size w w' := by
  have := get_any w B k A hA l
  rw [h] at this
  exact this

set_option maxHeartbeats 1600000 in
set_option maxRecDepth 20000 in
theorem arrayPinned_any (w : World) (sa : Nat → Addr) (hE : Env10 w sa) (n0 n1 n2 : Int) (ao : Option Addr) (cap : Nat) (zs : List Int) (hZ : Ints w ao cap zs) :
    Calls Tryd.prog 6 #[.int .i64 n0, .int .i64 n1, .int .i64 n2, .slice ao zs.length cap] w fun r w' => r = .returned (.bool true) ∧ Below w.heap.size w w' := by
  have HE := Hid.in hE
  have HZ := Hid.in hZ
  clear hE hZ
  obtain ⟨q1, hq1⟩ : ∃ q, wI n0 0 2 = q := ⟨_, rfl⟩
  obtain ⟨q2, hq2⟩ : ∃ q, wI n1 0 2 = q := ⟨_, rfl⟩
  have b1 := wI_le n0 0 2 (by omega)
  have b2 := wI_le n1 0 2 (by omega)
  rw [hq1] at b1
  rw [hq2] at b2
  have H1 := Hid.in hq1
  have H2 := Hid.in hq2
  clear hq1 hq2
  have c1 : q1 = 0 ∨ q1 = 1 ∨ q1 = 2 := by omega
  have c2 : q2 = 0 ∨ q2 = 1 ∨ q2 = 2 := by omega
  clear b1 b2
  go_enter Tryd.func6, Tryd.ntmps6
  go_wp2
  go_cut [9, 10] (fun s k wc => ∃ (sn kn : Nat), s = .int .i64 (sn : Int) ∧ k = .int .i64 (kn : Int) ∧ sn ∈ [1, 2, 4] ∧ kn ∈ [1, 2, 4] ∧ Below w.heap.size w wc)
  case first =>
    rcases c1 with rfl | rfl | rfl <;> rcases c2 with rfl | rfl | rfl
    all_goals
      have W1 := fun w' => withinc n0 0 2 _ w' (by decide) (by decide) (by decide) H1.out
      have W2 := fun w' => withinc n1 0 2 _ w' (by decide) (by decide) (by decide) H2.out
      go_quiet ((go_at_call 28; first | (with_reducible exact Calls.quiet_of_same (W1 _)) | (with_reducible exact Calls.quiet_of_same (W2 _))))
      go_wp2
      go_meet
      case rel => exact ⟨_, _, rfl, rfl, by decide, by decide, drewN_below (Below.refl _ _) _⟩
  case rest =>
    obtain ⟨s, k, rfl, rfl, hs, hk, hb⟩ := hcut
    have hs3 : s = 1 ∨ s = 2 ∨ s = 4 := by simpa using hs
    have hk3 : k = 1 ∨ k = 2 ∨ k = 4 := by simpa using hk
    have HSM := Hid.in hs
    have HKM := Hid.in hk
    have HB := Hid.in hb
    have HS3 : Hid (s = 1 ∨ s = 2 ∨ s = 4 ∨ s = 8) := Hid.in (by omega)
    have HK3 : Hid (k = 1 ∨ k = 2 ∨ k = 4 ∨ k = 8) := Hid.in (by omega)
    have HW : Hid (w.heap.size ≤ wc.heap.size) := Hid.in hb.size
    have hk1 : 1 ≤ k := by omega
    have hk4 : k ≤ 4 := by omega
    have hs1 : 1 ≤ s := by omega
    have hs4 : s ≤ 4 := by omega
    clear hs hk hb hk3 hs3 c1 c2
    obtain ⟨h, hdd⟩ : ∃ d : Nat, wI n2 0 ((s : Int) - 1) = (d : Int) := ⟨(wI n2 0 ((s : Int) - 1)).toNat, by have := wI_le n2 0 ((s : Int) - 1) (by omega); omega⟩
    have hh : h < s := by have := wI_le n2 0 ((s : Int) - 1) (by omega); omega
    have HD := Hid.in hdd
    clear hdd
    have HF0 := Hid.in (fill_none s HSM.out k HKM.out h hh)
    have HFP : Hid (∀ i, i < k → putA (fillA h s k i) (En.one ((h + s * i : Nat) : Int)) = (0, fillA h s k (i + 1))) := Hid.in (fun i hi => (fill_put HSM.out HKM.out hh hi).2)
    have HPK := Hid.in (pin_ok HSM.out HKM.out hh (evens zs k) (evens_len zs k))
    have HFL : Hid (∀ i, (fillA h s k i).length = s) := Hid.in (fun i => by simp [fillA, newA])
    obtain ⟨ks1, ks2⟩ := mul_le16' hk4 HSM.out
    go_wp2_with fail
    refine (new_ok wc s k HS3.out HK3.out).mono ?_
    rintro r w1 ⟨rfl, hA, hb⟩
    have HA1 := Hid.in hA
    have HB1 := Hid.in (bstep HB.out (Nat.le_refl _) hb)
    have HM : Hid (wc.heap.size + 2 + s ≤ w1.heap.size) := Hid.in (by
      have h1 := hA.lt.2 (s - 1) (by simp [newA]; omega)
      omega)
    clear hA hb
    go_wp2_with fail
    refine (withinc n2 0 ((s : Int) - 1) (h : Int) _ (by decide) (by omega) (by omega) HD.out).mono ?_
    rintro r w' ⟨rfl, rfl⟩
    rename World => w1
    go_wp2
    go_loopw [14, 15] (fun t c wr => ∃ (i : Nat) (a1 : Option Addr) (p1 : Nat), i ≤ k ∧ c = .int .i64 (i : Int) ∧ t = .slice a1 i p1 ∧ OwnI wr w1.heap.size a1 i p1 (linesT h s i) ∧ Arr wr wc.heap.size k (fillA h s k i) ∧ w1.heap.size ≤ wr.heap.size ∧ Below w.heap.size w wr) (fun _ c _ => 4 - (intOf c).toNat)
    case atStart => exact ⟨0, none, 0, Nat.zero_le _, rfl, rfl, OwnI.nil _ _, by rw [HF0.out]; exact HA1.out, Nat.le_refl _, HB1.out⟩
    case round =>
      obtain ⟨i, a1, p1, hi, rfl, rfl, hO, hA, hsz, hb⟩ := hrel
      have HO := Hid.in hO
      have HA := Hid.in hA
      have HBr := Hid.in hb
      have HSZ := Hid.in hsz
      clear hO hA hb hsz
      by_cases hlt : i < k
      · obtain ⟨is1, is2⟩ := mul_le16' (show i ≤ 4 by omega) HSM.out
        have hc0 : (wr.alloc (.cells #[.int .i64 ((h : Int) + (s : Int) * (i : Int))] 3)).cell? ⟨wr.heap.size, 0, none⟩ = some (.int .i64 ((h + s * i : Nat) : Int)) := by rw [linec]; simp
        have HC0 := Hid.in hc0
        have HBA : Hid (Below w1.heap.size wr (wr.alloc (.cells #[.int .i64 ((h : Int) + (s : Int) * (i : Int))] 3))) := Hid.in ((below_alloc wr _).mono HSZ.out)
        clear hc0
        go_wp2_with (first
          | (at_builtin; refine wpList_pushI rfl (.tmp 52) (.tmp 58) rfl w1.heap.size wr a1 wr.heap.size i p1 _ ((h + s * i : Nat) : Int) rfl (HO.out.step (below_alloc _ _)) rfl HC0.out HBA.out (Nat.le_trans HSZ.out (by simp)) (by omega) ?_; intro a2 p2 w2 HO2 HB2 _)
          | fail)
        refine (aof_f _ (h + s * i) (linec h s i) _).mono ?_
        rintro r w3 ⟨rfl, hb⟩
        have HA3 := Hid.in ((HA.out.stay HB2.out (by rw [HFL.out]; exact HM.out)).step hb)
        have HO3 := Hid.in (HO2.out.step hb)
        have HB3 := Hid.in (bstep (HBr.out.trans (HB2.out.mono HB1.out.size)) (Nat.le_refl _) hb)
        have HS3 : Hid (w1.heap.size ≤ w3.heap.size) := Hid.in (Nat.le_trans HSZ.out (Nat.le_trans HB2.out.size hb.size))
        clear hb
        go_wp2_with fail
        refine (put_c w3 sa (HE.out.below HB3.out) _ k _ HA3.out (En.one ((h + s * i : Nat) : Int)) 0 _ (HFP.out i hlt)).mono ?_
        rintro r w4 ⟨rfl, hA, hp⟩
        have HA4 := Hid.in hA
        have HO4 := Hid.in (HO3.out.apart hp (by rw [HFL.out]; exact HM.out))
        have HB4 := Hid.in (hp.below HB3.out HW.out HB3.out.size)
        have HS4 : Hid (w1.heap.size ≤ w4.heap.size) := Hid.in (Nat.le_trans HS3.out hp.size)
        clear hA hp
        rw [perr_none]
        go_wp2
        go_roundw
        case rel => exact ⟨i + 1, a2, p2, by omega, by go_num, rfl, by rw [linesT_succ]; exact HO4.out, HA4.out, HS4.out, HB4.out⟩
        case measure => simp [intOf]; omega
      · obtain rfl : k = i := by omega
        have hnx : (h : Int) + (s : Int) * (k : Int) < 32 := by omega
        have hnx0 : 0 ≤ (h : Int) + (s : Int) * (k : Int) := by omega
        have hok := HPK.out
        unfold okPin1 at hok
        simp only [Bool.and_eq_true, Bool.not_eq_true'] at hok
        have HK1 := Hid.in hok.1
        have HK2 := Hid.in hok.2
        clear hok HPK
        go_wp2_with fail
        refine (room_f wr _ k _ HA.out _ (h + s * k) false HK1.out (linec h s k)).mono ?_
        rintro r w5 ⟨rfl, hb⟩
        have HA5 := Hid.in (HA.out.step hb)
        have HO5 := Hid.in (HO.out.step hb)
        have HB5 := Hid.in (bstep HBr.out (Nat.le_refl _) hb)
        have HM5 : Hid (wc.heap.size + 2 + s ≤ w5.heap.size) := Hid.in (Nat.le_trans HM.out (Nat.le_trans HSZ.out hb.size))
        clear hb HA HO HBr
        obtain ⟨m, hm⟩ : ∃ m, evens zs k = m := ⟨_, rfl⟩
        rw [hm] at HK2
        have HMM := Hid.in hm
        clear hm
        go_wp2
        go_loopw [17, 18, 19] (fun p lf c wr => ∃ (i : Nat) (a3 : Option Addr) (n3 p3 : Nat), i ≤ k ∧ c = .int .i64 (i : Int) ∧ p = .slice a3 n3 p3 ∧ lf = .int .i64 ((k : Int) - (n3 : Int)) ∧ n3 ≤ i ∧ OwnI wr w5.heap.size a3 n3 p3 (pinT h s m i) ∧ Below w5.heap.size w5 wr) (fun _ _ c _ => 4 - (intOf c).toNat)
        case atStart => exact ⟨0, none, 0, 0, Nat.zero_le _, rfl, rfl, by simp, Nat.le_refl _, OwnI.nil _ _, Below.refl _ _⟩
        case round =>
          obtain ⟨i, a3, n3, p3, hi, rfl, rfl, rfl, hn3, hO, hb⟩ := hrel
          have HO := Hid.in hO
          have HBr := Hid.in hb
          clear hO hb
          by_cases hlt : i < k
          · have hmi := evens_at (zs := zs) hlt
            rw [HMM.out] at hmi
            by_cases hil : i < zs.length
            · obtain ⟨g, o, rfl, hc⟩ := HZ.out.cell i hil
              have hcr : wr.cell? ⟨g, o + i, none⟩ = some (.int .i64 zs[i]) := ((bstep HB5.out (Nat.le_refl _) HBr.out).cell (p := ⟨g, o + i, none⟩) (lt_cell (q := ⟨g, o + i, none⟩) hc)).trans hc
              have hmi' : m.getD i false = decide ((zs[i]).tmod 2 = 0) := by rw [hmi, List.getElem?_eq_getElem hil]
              obtain ⟨z, hz⟩ : ∃ z, zs[i] = z := ⟨_, rfl⟩
              rw [hz] at hcr hmi'
              clear hc hmi hz
              have i1 : (i : Int) < (zs.length : Int) := by omega
              by_cases hev : z.tmod 2 = 0
              · have hev1 : (z.tmod 2 == 0) = true := by simpa using hev
                have HPI := Hid.in (pinT_yes (h := h) (s := s) (i := i) (m := m) (by rw [hmi']; simpa using hev))
                obtain ⟨tb, ht0, htc⟩ := (HO5.out.step HBr.out).cell i (by rw [linesT_len]; exact hlt)
                rw [linesT_get] at htc
                subst ht0
                have i2 : (i : Int) < (k : Int) := by omega
                have hc0 : (wr.alloc (.cells #[.int .i64 ((h + s * i : Nat) : Int)] 3)).cell? ⟨wr.heap.size, 0, none⟩ = some (.int .i64 ((h + s * i : Nat) : Int)) := by simp
                have HC0 := Hid.in hc0
                have HBA : Hid (Below w5.heap.size w5 (wr.alloc (.cells #[.int .i64 ((h + s * i : Nat) : Int)] 3))) := Hid.in (HBr.out.alloc HBr.out.size _)
                clear hc0 hmi'
                obtain ⟨L, hL⟩ : ∃ L : Int, ((h + s * i : Nat) : Int) = L := ⟨_, rfl⟩
                rw [hL] at htc HC0 HBA HPI
                clear hL
                go_wp2_with (first
                  | (at_builtin; refine wpList_pushI rfl (.tmp 104) (.tmp 109) rfl w5.heap.size w5 a3 wr.heap.size n3 p3 _ L rfl (HO.out.step (below_alloc _ _)) rfl HC0.out HBA.out (Nat.le_trans HBr.out.size (by simp)) (by omega) ?_; intro a4 p4 w6 HO6 HB6 _)
                  | fail)
                go_roundw
                case rel => exact ⟨i + 1, a4, n3 + 1, p4, by omega, by go_num, rfl, by congr 1; omega, by omega, by rw [HPI.out]; exact HO6.out, HB6.out⟩
                case measure => simp [intOf]; omega
              · have hev1 : (z.tmod 2 == 0) = false := by simpa using hev
                have HPI := Hid.in (pinT_no (h := h) (s := s) (i := i) (m := m) (by rw [hmi']; simpa using hev))
                clear hmi' hev
                go_wp2
                go_roundw
                case rel => exact ⟨i + 1, a3, n3, p3, by omega, by go_num, rfl, rfl, by omega, by rw [HPI.out]; exact HO.out, HBr.out⟩
                case measure => simp [intOf]; omega
            · have HPI := Hid.in (pinT_no (h := h) (s := s) (i := i) (m := m) (by rw [hmi, List.getElem?_eq_none (by omega)]))
              have i1 : ¬ (i : Int) < (zs.length : Int) := by omega
              clear hmi
              go_wp2
              go_roundw
              case rel => exact ⟨i + 1, a3, n3, p3, by omega, by go_num, rfl, rfl, by omega, by rw [HPI.out]; exact HO.out, HBr.out⟩
              case measure => simp [intOf]; omega
          · obtain rfl : k = i := by omega
            have hlen3 := HO.out.len
            obtain ⟨P, hP⟩ : ∃ P, pinT h s m k = P := ⟨_, rfl⟩
            have HPR := Hid.in (pin_rng hh hk4 HSM.out m)
            rw [hP] at HO hlen3 HK2 HPR
            obtain ⟨V, hV⟩ : ∃ V, vicA (fillA h s k k) ((h + s * k : Nat) : Int) P = V := ⟨_, rfl⟩
            rw [hV] at HK2
            have HV := Hid.in hV
            have HL3 := Hid.in hlen3
            clear hP hV hlen3
            go_wp2_with fail
            refine (avictim_f wr _ k _ (HA5.out.step HBr.out) _ (h + s * k) (linec h s k) a3 n3 p3 P HL3.out (HO.out.ints HPR.out) (by have := HL3.out; omega) V HV.out).mono ?_
            rintro r w6 ⟨rfl, hb⟩
            have HA6 := Hid.in ((HA5.out.step HBr.out).step hb)
            have HO6 := Hid.in (HO.out.step hb)
            have HB6 := Hid.in (bstep (bstep HB5.out (Nat.le_refl _) HBr.out) (Nat.le_refl _) hb)
            have HS6 : Hid (w5.heap.size ≤ w6.heap.size) := Hid.in (Nat.le_trans HBr.out.size hb.size)
            clear hb HO HBr
            by_cases hn : n3 = k
            · have hV1 := HK2.out
              rw [if_pos (by rw [← HL3.out]; exact hn), decide_eq_true_eq] at hV1
              subst hV1
              have hz1 : ((k : Int) - (n3 : Int) == 0) = true := by simp; omega
              clear hn
              go_wp2_with fail
              refine (arrayRuns_any w6 sa (HE.out.below HB6.out)).mono ?_
              rintro r w7 ⟨rfl, hb⟩
              have HB7 := Hid.in (bstep HB6.out (Nat.le_refl _) hb)
              clear hb
              go_wp2
              go_ret
              exact ⟨rfl, HB7.out⟩
            · have hV1 := HK2.out
              rw [if_neg (by rw [← HL3.out]; exact hn)] at hV1
              simp only [Bool.and_eq_true, Bool.not_eq_true', decide_eq_true_eq] at hV1
              have HV1 := Hid.in hV1.1.1
              have HV3 := Hid.in hV1.2
              obtain ⟨e, he⟩ : ∃ e, getA (fillA h s k k) V = (e, true) := ⟨(getA (fillA h s k k) V).1, Prod.ext rfl hV1.1.2⟩
              obtain ⟨e0, e1, e2, e3, e4, e5, e6, e7, e8, e9⟩ := e
              have HGT := Hid.in he
              have hz1 : ((k : Int) - (n3 : Int) == 0) = false := by simp; omega
              have HPQ : Hid (∀ z ∈ P ++ [31], -9223372036854775808 ≤ z ∧ z ≤ 9223372036854775807) := Hid.in (fun z hz => by
                rcases List.mem_append.1 hz with h | h
                · exact HPR.out z h
                · rw [List.mem_singleton.1 h]; omega)
              clear hV1 he hn HK2
              go_wp2
              go_loopw [126] (fun c wr => ∃ j : Nat, j ≤ n3 ∧ c = .int .i64 (j : Int) ∧ wr = w6) (fun c _ => 4 - (intOf c).toNat)
              case atStart => exact ⟨0, Nat.zero_le _, rfl, rfl⟩
              case round =>
                obtain ⟨j, hj, rfl, rfl⟩ := hrel
                by_cases hjn : j < n3
                · have hjP : j < P.length := by rw [← HL3.out]; exact hjn
                  obtain ⟨tb, ht0, htc⟩ := HO6.out.cell j hjP
                  obtain ⟨z, hz⟩ : ∃ z, P[j] = z := ⟨_, rfl⟩
                  rw [hz] at htc
                  have hne : (V == z) = false := by
                    have h1 := HV1.out
                    simp only [List.contains_eq_mem, decide_eq_false_iff_not] at h1
                    simp only [beq_eq_false_iff_ne, ne_eq]
                    intro e
                    exact h1 (by rw [e, ← hz]; exact List.getElem_mem hjP)
                  subst ht0
                  have i1 : (j : Int) < (n3 : Int) := by omega
                  clear hz
                  go_wp2
                  go_roundw
                  case rel => exact ⟨j + 1, by omega, by go_num, trivial⟩
                  case measure => simp [intOf]; omega
                · have i1 : ¬ (j : Int) < (n3 : Int) := by omega
                  go_wp2_with fail
                  refine (get_c _ _ k _ HA6.out V _ true HGT.out).mono ?_
                  rintro r w7 ⟨rfl, hb⟩
                  have HA7 := Hid.in (HA6.out.step hb)
                  have HO7 := Hid.in (HO6.out.step hb)
                  have HB7 := Hid.in (bstep HB6.out (Nat.le_refl _) hb)
                  have HS7 : Hid (w5.heap.size ≤ w7.heap.size) := Hid.in (Nat.le_trans HS6.out hb.size)
                  clear hb
                  have HX1 : Hid (Below w7.heap.size w7 (w7.alloc (.cells (En.mk e0 e1 e2 e3 e4 e5 e6 e7 e8 e9).ec.toArray 32))) := Hid.in (below_alloc _ _)
                  have HX2 : Hid (Below w7.heap.size w7 ((w7.alloc (.cells (En.mk e0 e1 e2 e3 e4 e5 e6 e7 e8 e9).ec.toArray 32)).alloc (.cells #[.int .i64 31] 3))) := Hid.in (HX1.out.alloc HX1.out.size _)
                  have HC0 : Hid (((w7.alloc (.cells (En.mk e0 e1 e2 e3 e4 e5 e6 e7 e8 e9).ec.toArray 32)).alloc (.cells #[.int .i64 31] 3)).cell? ⟨w7.heap.size + 1, 0, none⟩ = some (.int .i64 31)) := Hid.in (by
                    have := heap_alloc_new (w7.alloc (.cells (En.mk e0 e1 e2 e3 e4 e5 e6 e7 e8 e9).ec.toArray 32)) (.cells #[.int .i64 31] 3)
                    rw [World.size_alloc] at this
                    exact blk_cell this rfl)
                  go_wp2_with (first
                    | (at_builtin; refine wpList_pushG rfl (.tmp 144) (.tmp 145) rfl w5.heap.size w7 a3 (w7.heap.size + 1) n3 p3 P 31 rfl (HO7.out.step HX2.out) rfl HC0.out (HX2.out.mono HS7.out) (Nat.le_trans HS7.out HX2.out.size) (by omega) ?_; intro a4 p4 w8 HO8 HB8 _)
                    | fail)
                  refine (avictim_f w8 _ k _ (HA7.out.stay HB8.out (by rw [HFL.out]; exact HM5.out)) _ (h + s * k) (linec h s k) a4 (n3 + 1) p4 (P ++ [31]) HO8.out.len (HO8.out.ints HPQ.out) (by have := HO8.out.len; omega) V HV3.out).mono ?_
                  rintro r w9 ⟨rfl, hb⟩
                  have HB9 := Hid.in (bstep (HB7.out.trans (HB8.out.mono HB5.out.size)) (Nat.le_refl _) hb)
                  clear hb
                  go_wp2_with fail
                  refine (arrayRuns_any w9 sa (HE.out.below HB9.out)).mono ?_
                  rintro r w10 ⟨rfl, hb⟩
                  have HB10 := Hid.in (bstep HB9.out (Nat.le_refl _) hb)
                  clear hb
                  go_wp2
                  go_ret
                  exact ⟨rfl, HB10.out⟩

end Go.Proofs.YtcackmmfnojpfaaDoor
