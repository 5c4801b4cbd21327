/- DERIVED of the program: what a store of an entry, or of a set's bits, leaves of an array; right, Room, Get, Put, Drop by their contracts. Own work. -/
import Derived.Test.YtcackmmfnojpfaaDoorArA
namespace Go.Proofs.YtcackmmfnojpfaaDoor
open Go.RowKit Go.Extern.Stop Go.Stop Go.Extern

/-- Some cells of a row set anew. -/
def setL : Array Value → Nat → List Value → Array Value
  | cs, _, [] => cs
  | cs, o, v :: vs => setL (cs.setIfInBounds o v) (o + 1) vs

theorem setL_size : ∀ (vs : List Value) (cs : Array Value) (o : Nat), (setL cs o vs).size = cs.size
  | [], _, _ => rfl
  | v :: vs, cs, o => by rw [setL, setL_size vs]; simp

theorem setL_out : ∀ (vs : List Value) (cs : Array Value) (o x : Nat), x < o ∨ o + vs.length ≤ x → (setL cs o vs)[x]? = cs[x]?
  | [], _, _, _, _ => rfl
  | v :: vs, cs, o, x, h => by
    simp only [List.length_cons] at h
    rw [setL, setL_out vs _ _ _ (by omega), Array.getElem?_setIfInBounds_ne (by omega)]

theorem setL_in : ∀ (vs : List Value) (cs : Array Value) (o c : Nat) (v : Value), vs[c]? = some v → o + vs.length ≤ cs.size → (setL cs o vs)[o + c]? = some v
  | [], _, _, _, _, h, _ => by simp at h
  | u :: vs, cs, o, 0, v, h, hs => by
    simp only [List.length_cons] at hs
    rw [setL, setL_out vs _ _ _ (by omega)]
    simp at h
    subst h
    simp [show o < cs.size by omega]
  | u :: vs, cs, o, c + 1, v, h, hs => by
    simp only [List.length_cons] at hs
    rw [setL, show o + (c + 1) = (o + 1) + c by omega]
    exact setL_in vs _ _ c v (by simpa using h) (by simp; omega)

theorem setCells_blk : ∀ (vs : List Value) (w : World) (b o : Nat) (cs : Array Value) (t : TypeId), w.heap[b]? = some (.cells cs t (0, 0)) → (w.setCells b o vs).heap[b]? = some (.cells (setL cs o vs) t (0, 0))
  | [], _, _, _, _, _, h => h
  | v :: vs, w, b, o, cs, t, h => by
    rw [World.setCells, setL]
    exact setCells_blk vs _ b (o + 1) _ t (blk_set v h)

theorem apart_setCells : ∀ (vs : List Value) (w : World) (b o lo hi : Nat), lo ≤ b → b < hi → Apart lo hi w (w.setCells b o vs)
  | [], w, _, _, _, _, _, _ => Apart.of_below (Below.refl _ _)
  | v :: vs, w, b, o, lo, hi, h1, h2 => by
    rw [World.setCells]
    refine Apart.trans ?_ (apart_setCells vs _ b (o + 1) lo hi h1 h2)
    exact ⟨rfl, rfl, rfl, by simp [World.setCell], fun k _ hk => Below.heap_setCell w _ v k (fun e => hk (by rw [e]; exact ⟨h1, h2⟩))⟩

theorem Apart.drew {lo hi : Nat} {w w' : World} (h : Apart lo hi w w') : Apart lo hi w w'.drew := ⟨h.os, h.tape, h.output, h.size, h.block⟩
theorem Arr.drew {w : World} {B k : Nat} {A : List St} (h : Arr w B k A) : Arr w.drew B k A := h.step ((Below.refl _ _).drew)

theorem ec_len (e : En) : e.ec.length = 10 := rfl

/-- What an entry's store leaves. -/
theorem Arr.store {w : World} {B k : Nat} {A : List St} (hA : Arr w B k A) {h b : Nat} {es : List En} (hh : A[h]? = some (b, es)) (i : Nat) (hi : i < es.length) (e : En) :
    Arr (w.setCells (B + 2 + h) (i * 10) e.ec) B k (A.set h (b, es.set i e)) ∧ Apart B (B + 2 + A.length) w (w.setCells (B + 2 + h) (i * 10) e.ec) := by
  obtain ⟨hl, he⟩ := List.getElem?_eq_some_iff.1 hh
  have hap : Apart (B + 2 + h) (B + 2 + h + 1) w (w.setCells (B + 2 + h) (i * 10) e.ec) := apart_setCells _ w _ _ _ _ (Nat.le_refl _) (by omega)
  obtain ⟨l1, l2⟩ := hA.lt
  refine ⟨?_, apart_setCells _ w _ _ _ _ (by omega) (by omega)⟩
  obtain ⟨cs, s1, s2⟩ := hA.s
  have hk := (hA.ok h hl).2
  rw [he] at hk
  refine ⟨by rw [List.length_set]; exact (hap.block _ l1 (by omega)).trans hA.q, ⟨cs, (hap.block _ (by omega) (by omega)).trans s1, fun j hj => ?_⟩, fun j hj => ?_, by rw [List.length_set]; exact hA.nn, hA.kk, fun j hj => ?_⟩
  · have hj' : j < A.length := by simpa using hj
    obtain ⟨f1, f2⟩ := s2 j hj'
    refine ⟨?_, f2⟩
    rw [f1]
    by_cases hjh : j = h
    · subst hjh; simp [he]
    · rw [List.getElem_set_ne (fun e => hjh e.symm)]
  · have hj' : j < A.length := by simpa using hj
    obtain ⟨c2, e1, e2⟩ := hA.e j hj'
    by_cases hjh : j = h
    · subst hjh
      refine ⟨_, setCells_blk _ _ _ _ _ _ e1, fun m hm c v hv => ?_⟩
      have hm' : m < es.length := by simpa using hm
      rw [he] at e2
      have hc : c < 10 := by
        have := (List.getElem?_eq_some_iff.1 hv).1
        rwa [ec_len] at this
      by_cases hmi : m = i
      · subst hmi
        simp only [List.getElem_set_self] at hv
        refine setL_in _ _ _ _ _ hv ?_
        rw [ec_len]
        have := e2 m hm' 9 _ rfl
        have := (Array.getElem?_eq_some_iff.1 this).1
        omega
      · simp only [List.getElem_set_self, List.getElem_set_ne (fun e => hmi e.symm)] at hv
        rw [setL_out _ _ _ _ (by rw [ec_len]; omega)]
        exact e2 m hm' c v hv
    · refine ⟨c2, (hap.block _ (l2 j hj') (by omega)).trans e1, ?_⟩
      rw [List.getElem_set_ne (fun e => hjh e.symm)]
      exact e2
  · have hj' : j < A.length := by simpa using hj
    by_cases hjh : j = h
    · subst hjh
      have := hA.ok j hj'
      rw [he] at this
      simpa using this
    · rw [List.getElem_set_ne (fun e => hjh e.symm)]
      exact hA.ok j hj'

/-- What the store of a set's bits leaves. -/
theorem Arr.bits {w : World} {B k : Nat} {A : List St} (hA : Arr w B k A) {h b : Nat} {es : List En} (hh : A[h]? = some (b, es)) (b' : Nat) (hb' : b' < 256) :
    Arr (w.setCell ⟨B, h * 2, none⟩ (.int .u8 (b' : Int))) B k (A.set h (b', es)) ∧ Apart B (B + 2 + A.length) w (w.setCell ⟨B, h * 2, none⟩ (.int .u8 (b' : Int))) := by
  obtain ⟨hl, he⟩ := List.getElem?_eq_some_iff.1 hh
  have hap : ∀ lo hi, lo ≤ B → B < hi → Apart lo hi w (w.setCell ⟨B, h * 2, none⟩ (.int .u8 (b' : Int))) := fun lo hi h1 h2 => apart_setCells [.int .u8 (b' : Int)] w B (h * 2) lo hi h1 h2
  have ha := hap B (B + 1) (Nat.le_refl _) (by omega)
  obtain ⟨l1, l2⟩ := hA.lt
  refine ⟨?_, hap _ _ (Nat.le_refl _) (by omega)⟩
  obtain ⟨cs, s1, s2⟩ := hA.s
  refine ⟨by rw [List.length_set]; exact (ha.block _ l1 (by omega)).trans hA.q, ⟨_, blk_set _ s1, fun j hj => ?_⟩, fun j hj => ?_, by rw [List.length_set]; exact hA.nn, hA.kk, fun j hj => ?_⟩
  · have hj' : j < A.length := by simpa using hj
    obtain ⟨f1, f2⟩ := s2 j hj'
    have hsz := (Array.getElem?_eq_some_iff.1 f1).1
    refine ⟨?_, by rw [Array.getElem?_setIfInBounds_ne (by omega)]; exact f2⟩
    by_cases hjh : j = h
    · subst hjh; simp [hsz]
    · rw [Array.getElem?_setIfInBounds_ne (by omega), List.getElem_set_ne (fun e => hjh e.symm)]
      exact f1
  · have hj' : j < A.length := by simpa using hj
    obtain ⟨c2, e1, e2⟩ := hA.e j hj'
    refine ⟨c2, (ha.block _ (l2 j hj') (by omega)).trans e1, ?_⟩
    by_cases hjh : j = h
    · subst hjh
      rw [he] at e2
      simpa using e2
    · rw [List.getElem_set_ne (fun e => hjh e.symm)]
      exact e2
  · have hj' : j < A.length := by simpa using hj
    by_cases hjh : j = h
    · subst hjh
      have := hA.ok j hj'
      rw [he] at this
      simpa using ⟨hb', this.2⟩
    · rw [List.getElem_set_ne (fun e => hjh e.symm)]
      exact hA.ok j hj'

theorem awithin_c (n a b : Int) (c : Bool) (h : wB n a b = c) (w : World) : Calls Tryd.prog 49 #[.int .i64 n, .int .i64 a, .int .i64 b] w fun r w' => r = .returned (.bool c) ∧ w' = w := by
  rw [← h]
  clear h
  by_cases h1 : a ≤ n
  · by_cases h2 : n ≤ b
    · have HE := Hid.in (wB_yes ⟨h1, h2⟩)
      go_enter Tryd.func49, Tryd.ntmps49
      go_wp2
      go_ret
      exact ⟨ret_bool HE.out.symm, rfl⟩
    · have HE := Hid.in (wB_no (n := n) (a := a) (b := b) (fun h => h2 h.2))
      go_enter Tryd.func49, Tryd.ntmps49
      go_wp2
      go_ret
      exact ⟨ret_bool HE.out.symm, rfl⟩
  · have HE := Hid.in (wB_no (n := n) (a := a) (b := b) (fun h => h1 h.1))
    go_enter Tryd.func49, Tryd.ntmps49
    go_wp2
    go_ret
    exact ⟨ret_bool HE.out.symm, rfl⟩

theorem right_split (e : En) : e.right = (wB e.line 0 31 && wB e.state 1 4 && wB e.mode 0 3 && wB e.epoch 0 255) := by
  unfold En.right wB
  rw [Bool.eq_iff_iff]
  simp only [Bool.and_eq_true, decide_eq_true_eq]
  omega

theorem right_any (e : En) (w : World) : Calls Tryd.prog 32 #[e.val] w fun r w' => r = .returned (.bool e.right) ∧ Below w.heap.size w w' := by
  rw [right_split]
  obtain ⟨e0, e1, e2, e3, e4, e5, e6, e7, e8, e9⟩ := e
  simp only []
  obtain ⟨b0, h0⟩ : ∃ b, wB e0 0 31 = b := ⟨_, rfl⟩
  obtain ⟨b1, h1⟩ : ∃ b, wB e1 1 4 = b := ⟨_, rfl⟩
  obtain ⟨b2, h2⟩ : ∃ b, wB e2 0 3 = b := ⟨_, rfl⟩
  obtain ⟨b3, h3⟩ : ∃ b, wB e3 0 255 = b := ⟨_, rfl⟩
  rw [h0, h1, h2, h3]
  have H0 := Hid.in h0
  have H1 := Hid.in h1
  have H2 := Hid.in h2
  have H3 := Hid.in h3
  clear h0 h1 h2 h3
  cases b0
  · go_enter Tryd.func32, Tryd.ntmps32
    go_wp2_with fail
    refine (awithin_c _ _ _ _ H0.out _).mono ?_
    rintro r w' ⟨rfl, rfl⟩
    go_wp2
    go_ret
    exact ⟨rfl, below_alloc _ _⟩
  · cases b1
    · go_enter Tryd.func32, Tryd.ntmps32
      go_wp2_with fail
      refine (awithin_c _ _ _ _ H0.out _).mono ?_
      rintro r w' ⟨rfl, rfl⟩
      go_wp2_with fail
      refine (awithin_c _ _ _ _ H1.out _).mono ?_
      rintro r w' ⟨rfl, rfl⟩
      go_wp2
      go_ret
      exact ⟨rfl, below_alloc _ _⟩
    · cases b2
      · go_enter Tryd.func32, Tryd.ntmps32
        go_wp2_with fail
        refine (awithin_c _ _ _ _ H0.out _).mono ?_
        rintro r w' ⟨rfl, rfl⟩
        go_wp2_with fail
        refine (awithin_c _ _ _ _ H1.out _).mono ?_
        rintro r w' ⟨rfl, rfl⟩
        go_wp2_with fail
        refine (awithin_c _ _ _ _ H2.out _).mono ?_
        rintro r w' ⟨rfl, rfl⟩
        go_wp2
        go_ret
        exact ⟨rfl, below_alloc _ _⟩
      · go_enter Tryd.func32, Tryd.ntmps32
        go_wp2_with fail
        refine (awithin_c _ _ _ _ H0.out _).mono ?_
        rintro r w' ⟨rfl, rfl⟩
        go_wp2_with fail
        refine (awithin_c _ _ _ _ H1.out _).mono ?_
        rintro r w' ⟨rfl, rfl⟩
        go_wp2_with fail
        refine (awithin_c _ _ _ _ H2.out _).mono ?_
        rintro r w' ⟨rfl, rfl⟩
        go_wp2_with fail
        refine (awithin_c _ _ _ _ H3.out _).mono ?_
        rintro r w' ⟨rfl, rfl⟩
        go_wp2
        go_ret
        exact ⟨rfl, below_alloc _ _⟩

theorem room_any (w : World) (B k : Nat) (A : List St) (hA : Arr w B k A) (l : Int) :
    Calls Tryd.prog 16 #[.pointer (some ⟨B + 1, 0, none⟩), .int .i64 l] w fun r w' => r = .returned (.bool (roomA A l)) ∧ Below w.heap.size w w' := by
  have HA := Hid.in hA
  cases hv : vld l with
  | false =>
    have HV := Hid.in hv
    have HR : Hid (roomA A l = false) := Hid.in (by simp [roomA, hv])
    clear hv hA
    go_enter Tryd.func16, Tryd.ntmps16
    go_wp2_with fail
    refine (place_out w B k A HA.out l HV.out).mono ?_
    rintro r w1 ⟨rfl, hb⟩
    have HB := Hid.in hb
    clear hb
    go_wp2
    go_ret
    exact ⟨ret_bool HR.out.symm, HB.out⟩
  | true =>
    have HS := Hid.in (set_home hA.nn hv)
    have HG := Hid.in (stA_get hA.pos.1 l)
    have HR : Hid (roomA A l = decide (0 ≤ plc l (stA A l).2)) := Hid.in (by simp [roomA, hv])
    clear hv hA
    obtain ⟨p, hp⟩ : ∃ p, plc l (stA A l).2 = p := ⟨_, rfl⟩
    have HP := Hid.in hp
    clear hp
    go_enter Tryd.func16, Tryd.ntmps16
    go_wp2_with fail
    refine (place_in w B k A HA.out l (hm A l) (stA A l).1 (stA A l).2 HS.out HG.out).mono ?_
    rw [HP.out]
    rintro r w1 ⟨rfl, hb⟩
    have HB := Hid.in hb
    clear hb
    go_wp2
    go_ret
    exact ⟨ret_bool (by rw [HR.out, HP.out]), HB.out⟩

end Go.Proofs.YtcackmmfnojpfaaDoor
