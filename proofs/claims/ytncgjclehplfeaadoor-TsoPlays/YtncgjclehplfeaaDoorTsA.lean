/- DERIVED of the program: a TSO model in memory, the project's and the document's own alike: a block, a row of cores, a row of words, each core's stores that wait; what a write to one of its blocks makes of it. Own work. -/
import Derived.Test.YtncgjclehplfeaaDoorTsPure
import Derived.Test.YtncgjclehplfeaaDoorGenZ
namespace Go.Proofs.YtncgjclehplfeaaDoor
open Go.RowKit Go.Extern.Stop Go.Stop Go.Extern

/-- A core's part: its stores that wait, how many are gone, of each word which was the last to it. -/
structure Cr where
  ao : Option Addr
  cap : Nat
  L : List (Int × Int)
  g : Nat
  al : Option Addr
  lcap : Nat
  T : List Nat
def Cr.blks (c : Cr) : List Nat := (oblk c.ao).toList ++ (oblk c.al).toList
def uc (z : Int) : List Value := [.int .u32 z]
def tc (n : Nat) : List Value := [.int .i64 (n : Int)]
/-- A core's cells: the project's, the document's own. -/
def pc (c : Cr) : List Value := [.slice c.ao c.L.length c.cap, .int .i64 (c.g : Int), .slice c.al c.T.length c.lcap]
def rc (c : Cr) : List Value := [.slice c.ao c.L.length c.cap]
structure Sh where
  tm : TypeId
  tb : TypeId
  tw : TypeId
  ti : TypeId
  tu : TypeId
  rf : Cr → List Value
  m : Nat
structure Hd where
  ab : Option Addr
  capb : Nat
  am : Option Addr
  capm : Nat
/-- A core's rows. -/
structure CrAt (h : Sh) (w : World) (c : Cr) : Prop where
  s : OwnA h.tw 2 w 0 c.ao c.L.length c.cap (c.L.map wc)
  l : OwnA h.ti 1 w 0 c.al c.T.length c.lcap (c.T.map tc)
theorem CrAt.keep {h : Sh} {w w' : World} {c : Cr} (hc : CrAt h w c) (hb : ∀ k ∈ c.blks, w'.heap[k]? = w.heap[k]?) : CrAt h w' c :=
  ⟨hc.s.keep (fun k hk => hb k (List.mem_append_left _ (Option.mem_toList.2 hk))), hc.l.keep (fun k hk => hb k (List.mem_append_right _ (Option.mem_toList.2 hk)))⟩
theorem CrAt.lt {h : Sh} {w : World} {c : Cr} (hc : CrAt h w c) : ∀ k ∈ c.blks, k < w.heap.size := fun k hk => by
  rcases List.mem_append.1 hk with hk | hk
  · obtain ⟨_, _, h2⟩ := hc.s.blk k (Option.mem_toList.1 hk); exact blk_lt h2
  · obtain ⟨_, _, h2⟩ := hc.l.blk k (Option.mem_toList.1 hk); exact blk_lt h2
/-- A model's blocks. -/
def bks (q : Nat) (H : Hd) (C : List Cr) : List Nat := (q :: ((oblk H.ab).toList ++ (oblk H.am).toList)) ++ C.flatMap Cr.blks
/-- A model in memory. -/
structure Mdl (h : Sh) (w : World) (q : Nat) (H : Hd) (C : List Cr) (M : List Int) : Prop where
  blk : w.heap[q]? = some (.cells #[.slice H.ab C.length H.capb, .slice H.am M.length H.capm] h.tm (0, 0))
  own : OwnA h.tb h.m w 0 H.ab C.length H.capb (C.map h.rf)
  mem : OwnA h.tu 1 w 0 H.am M.length H.capm (M.map uc)
  each : ∀ c ∈ C, CrAt h w c
  nd : (bks q H C).Nodup

theorem mem_bks {q k : Nat} {H : Hd} {C : List Cr} : k ∈ bks q H C ↔ k = q ∨ oblk H.ab = some k ∨ oblk H.am = some k ∨ ∃ c ∈ C, k ∈ c.blks := by
  simp [bks]
theorem Mdl.memb {h : Sh} {w : World} {q : Nat} {H : Hd} {C : List Cr} {M : List Int} (hT : Mdl h w q H C M) : ∀ k ∈ bks q H C, k < w.heap.size := by
  intro k hk
  rcases mem_bks.1 hk with rfl | hk | hk | ⟨c, hc, hk⟩
  · exact blk_lt hT.blk
  · obtain ⟨_, _, h2⟩ := hT.own.blk k hk; exact blk_lt h2
  · obtain ⟨_, _, h2⟩ := hT.mem.blk k hk; exact blk_lt h2
  · exact (hT.each c hc).lt k hk
theorem Mdl.keep {h : Sh} {w w' : World} {q : Nat} {H : Hd} {C : List Cr} {M : List Int} (hT : Mdl h w q H C M) (hb : ∀ k ∈ bks q H C, w'.heap[k]? = w.heap[k]?) : Mdl h w' q H C M :=
  ⟨(hb q (mem_bks.2 (.inl rfl))).trans hT.blk, hT.own.keep (fun k hk => hb k (mem_bks.2 (.inr (.inl hk)))), hT.mem.keep (fun k hk => hb k (mem_bks.2 (.inr (.inr (.inl hk))))),
    fun c hc => (hT.each c hc).keep (fun k hk => hb k (mem_bks.2 (.inr (.inr (.inr ⟨c, hc, hk⟩))))), hT.nd⟩
theorem Mdl.fr {h : Sh} {w w' : World} {q : Nat} {H : Hd} {C : List Cr} {M : List Int} {T : List Nat} (hT : Mdl h w q H C M) (hf : Fr T w w') (hd : ∀ k ∈ bks q H C, k ∉ T) : Mdl h w' q H C M :=
  hT.keep fun k hk => hf.block k (hT.memb k hk) (hd k hk)
theorem Mdl.step {h : Sh} {w w' : World} {q : Nat} {H : Hd} {C : List Cr} {M : List Int} (hT : Mdl h w q H C M) (hb : Below w.heap.size w w') : Mdl h w' q H C M :=
  hT.keep fun k hk => hb.block k (hT.memb k hk)

theorem nodup_mid {X Y Y' Z : List Nat} {n : Nat} (h : (X ++ (Y ++ Z)).Nodup) (hn : Y'.Nodup) (hs : ∀ k ∈ Y', k ∈ Y ∨ n ≤ k) (hlt : ∀ k ∈ X ++ (Y ++ Z), k < n) : (X ++ (Y' ++ Z)).Nodup := by
  simp only [List.nodup_append, List.mem_append] at h hlt ⊢
  obtain ⟨hX, ⟨hY, hZ, hYZ⟩, hXY⟩ := h
  refine ⟨hX, ⟨hn, hZ, fun a ha b hb => ?_⟩, fun a ha b hb => ?_⟩
  · rcases hs a ha with h1 | h1
    · exact hYZ a h1 b hb
    · have := hlt b (.inr (.inr hb)); omega
  · rcases hb with hb | hb
    · rcases hs b hb with h1 | h1
      · exact hXY a ha b (.inl h1)
      · have := hlt a (.inl ha); omega
    · exact hXY a ha b (.inr hb)

theorem split_at {α : Type} {l : List α} {i : Nat} {x : α} (h : l[i]? = some x) : ∃ l1 l2, l = l1 ++ x :: l2 ∧ ∀ y, l.set i y = l1 ++ y :: l2 := by
  obtain ⟨hi, he⟩ := List.getElem?_eq_some_iff.1 h
  refine ⟨l.take i, l.drop (i + 1), ?_, fun y => List.set_eq_take_append_cons_drop ▸ (if_pos hi)⟩
  rw [← he, ← List.drop_eq_getElem_cons hi, List.take_append_drop]

/-- One core's part is another one now. -/
theorem Mdl.upd {h : Sh} {w w2 : World} {q i : Nat} {H : Hd} {C : List Cr} {M : List Int} {c : Cr} (hT : Mdl h w q H C M) (hc : C[i]? = some c) (c' : Cr) (M' : List Int) (hM : M'.length = M.length)
    (hq : w2.heap[q]? = w.heap[q]?) (hb : OwnA h.tb h.m w2 0 H.ab C.length H.capb ((C.set i c').map h.rf)) (hm : OwnA h.tu 1 w2 0 H.am M.length H.capm (M'.map uc))
    (h1 : CrAt h w2 c') (ho : ∀ k ∈ bks q H C, k ∉ c.blks → k ≠ q → oblk H.ab ≠ some k → oblk H.am ≠ some k → w2.heap[k]? = w.heap[k]?)
    (hs : ∀ k ∈ c'.blks, k ∈ c.blks ∨ w.heap.size ≤ k) (hn : c'.blks.Nodup) :
    Mdl h w2 q H (C.set i c') M' ∧ ∀ k ∈ bks q H (C.set i c'), k ∈ bks q H C ∨ w.heap.size ≤ k := by
  obtain ⟨C1, C2, hC, hset⟩ := split_at hc
  have hlt := hT.memb
  have hnd := hT.nd
  have hC' := hset c'
  have hbk : bks q H C = ((q :: ((oblk H.ab).toList ++ (oblk H.am).toList)) ++ C1.flatMap Cr.blks) ++ (c.blks ++ C2.flatMap Cr.blks) := by simp [bks, hC]
  have hbk' : bks q H (C.set i c') = ((q :: ((oblk H.ab).toList ++ (oblk H.am).toList)) ++ C1.flatMap Cr.blks) ++ (c'.blks ++ C2.flatMap Cr.blks) := by simp [bks, hC']
  have hsub : ∀ k ∈ bks q H (C.set i c'), k ∈ bks q H C ∨ w.heap.size ≤ k := by
    intro k hk
    rw [hbk'] at hk
    rw [hbk]
    rcases List.mem_append.1 hk with hk | hk
    · exact .inl (List.mem_append_left _ hk)
    · rcases List.mem_append.1 hk with hk | hk
      · rcases hs k hk with h3 | h3
        · exact .inl (List.mem_append_right _ (List.mem_append_left _ h3))
        · exact .inr h3
      · exact .inl (List.mem_append_right _ (List.mem_append_right _ hk))
  have hnd2 := hnd
  rw [hbk] at hnd2
  have other : ∀ d, (d ∈ C1 ∨ d ∈ C2) → ∀ k ∈ d.blks, w2.heap[k]? = w.heap[k]? := by
    intro d hd k hk
    have hkm : k ∈ bks q H C := by
      rw [hbk]
      rcases hd with hd | hd
      · exact List.mem_append_left _ (List.mem_append_right _ (List.mem_flatMap.2 ⟨d, hd, hk⟩))
      · exact List.mem_append_right _ (List.mem_append_right _ (List.mem_flatMap.2 ⟨d, hd, hk⟩))
    have hkq : k ∉ (q :: ((oblk H.ab).toList ++ (oblk H.am).toList)) := by
      intro hm
      have hkc : k ∈ C.flatMap Cr.blks := List.mem_flatMap.2 ⟨d, by rw [hC]; rcases hd with hd | hd; (· exact List.mem_append_left _ hd); exact List.mem_append_right _ (List.mem_cons_of_mem _ hd), hk⟩
      exact (List.nodup_append.1 hnd).2.2 k hm k hkc rfl
    have hkc : k ∉ c.blks := by
      intro hm
      rcases hd with hd | hd
      · exact (List.nodup_append.1 hnd2).2.2 k (List.mem_append_right _ (List.mem_flatMap.2 ⟨d, hd, hk⟩)) k (List.mem_append_left _ hm) rfl
      · exact (List.nodup_append.1 (List.nodup_append.1 hnd2).2.1).2.2 k hm k (List.mem_flatMap.2 ⟨d, hd, hk⟩) rfl
    refine ho k hkm hkc (fun e => hkq (by rw [e]; exact List.mem_cons_self)) (fun e => hkq (List.mem_cons_of_mem _ (List.mem_append_left _ (Option.mem_toList.2 e)))) (fun e => hkq (List.mem_cons_of_mem _ (List.mem_append_right _ (Option.mem_toList.2 e))))
  refine ⟨⟨by rw [List.length_set, hM]; exact hq.trans hT.blk, by rw [List.length_set]; exact hb, by rw [hM]; exact hm, fun d hd => ?_, ?_⟩, hsub⟩
  · rw [hC'] at hd
    have old : (d ∈ C1 ∨ d ∈ C2) → CrAt h w2 d := fun hd => by
      have hdC : d ∈ C := by rw [hC]; rcases hd with hd | hd; (· exact List.mem_append_left _ hd); exact List.mem_append_right _ (List.mem_cons_of_mem _ hd)
      exact (hT.each d hdC).keep (other d hd)
    rcases List.mem_append.1 hd with hd | hd
    · exact old (.inl hd)
    · rcases List.mem_cons.1 hd with rfl | hd
      · exact h1
      · exact old (.inr hd)
  · rw [hbk']
    exact nodup_mid hnd2 hn hs (fun k hk => hlt k (by rw [hbk]; exact hk))

/-- Which blocks are apart. -/
theorem Mdl.apart {h : Sh} {w : World} {q i : Nat} {H : Hd} {C : List Cr} {M : List Int} {c : Cr} (hT : Mdl h w q H C M) (hc : C[i]? = some c) :
    (∀ k, oblk H.ab = some k → k ≠ q) ∧ (∀ k, oblk H.am = some k → k ≠ q ∧ oblk H.ab ≠ some k) ∧ (∀ k ∈ c.blks, k ≠ q ∧ oblk H.ab ≠ some k ∧ oblk H.am ≠ some k) ∧ c.blks.Nodup := by
  have hnd := hT.nd
  have hm : c ∈ C := List.mem_of_getElem? hc
  obtain ⟨C1, C2, hC, _⟩ := split_at hc
  have n1 := (List.nodup_append.1 hnd).1
  have n2 := List.nodup_cons.1 n1
  have n3 := List.nodup_append.1 n2.2
  refine ⟨fun k hk e => n2.1 (by rw [← e]; exact List.mem_append_left _ (Option.mem_toList.2 hk)), fun k hk => ⟨fun e => n2.1 (by rw [← e]; exact List.mem_append_right _ (Option.mem_toList.2 hk)), fun e => n3.2.2 k (Option.mem_toList.2 e) k (Option.mem_toList.2 hk) rfl⟩, fun k hk => ?_, ?_⟩
  · have hkc : k ∈ C.flatMap Cr.blks := List.mem_flatMap.2 ⟨c, hm, hk⟩
    have hh := fun j hj => (List.nodup_append.1 hnd).2.2 j hj k hkc
    exact ⟨fun e => hh q List.mem_cons_self e.symm, fun e => hh k (List.mem_cons_of_mem _ (List.mem_append_left _ (Option.mem_toList.2 e))) rfl, fun e => hh k (List.mem_cons_of_mem _ (List.mem_append_right _ (Option.mem_toList.2 e))) rfl⟩
  · have n4 := (List.nodup_append.1 hnd).2.1
    rw [hC, List.flatMap_append, List.flatMap_cons] at n4
    exact (List.nodup_append.1 (List.nodup_append.1 n4).2.1).1
end Go.Proofs.YtncgjclehplfeaaDoor
