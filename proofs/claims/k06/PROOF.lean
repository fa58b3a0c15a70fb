import PyProof.Rows.All
import Wide.All
import OpenK.AllK
import Wide.FinOn
import HandS.ForMost
import HandS.ForExc
import HandS.Wide
import HandS.SortKw
import HandS.SortRule
import HandS.SortInts
import HandS.Style
import HandS.IsInst
import HandS.Conv
import HandS.Walk
import HandS.Flow
import HandS.More
import HandS.Defaults
import HandS.RaiseMore
import HandS.Remove
import HandS.Star
import HandS.Steps
import HandS.Strs
import PySem.Challenge.RW_elderinn_k06_whole_none_fuller
set_option Elab.async false
set_option linter.all false
set_option maxRecDepth 100000
set_option maxHeartbeats 8000000
namespace El
/-! ### the rule by age, in plain lists -/
def place : List (List Int) → Int → Int → List (List Int)
  | [], a, _ => [[a]]
  | r :: rs, a, p => if (r.length : Int) ≤ p then (r ++ [a]) :: rs else r :: place rs a p
def firstB : List (List Int) → Int → Nat
  | [], _ => 0
  | r :: rs, p => if (r.length : Int) ≤ p then 0 else firstB rs p + 1
theorem firstB_le : ∀ (rs : List (List Int)) (p : Int), firstB rs p ≤ rs.length
  | [], _ => Nat.le_refl _
  | r :: rs, p => by
    unfold firstB
    split
    · exact Nat.zero_le _
    · exact Nat.succ_le_succ (firstB_le rs p)
theorem firstB_out : ∀ (rs : List (List Int)) (p : Int) (i : Nat) (r : List Int), i < firstB rs p → rs[i]? = some r → p < (r.length : Int)
  | [], _, _, _, h, _ => absurd h (Nat.not_lt_zero _)
  | s :: rs, p, i, r, h, e => by
    unfold firstB at h
    split at h
    · exact absurd h (Nat.not_lt_zero _)
    · rename_i hn
      cases i with
      | zero =>
        have e' : s = r := Option.some.inj e
        subst e'
        omega
      | succ i => exact firstB_out rs p i r (Nat.lt_of_succ_lt_succ h) (by simpa using e)
theorem firstB_in : ∀ (rs : List (List Int)) (p : Int), firstB rs p < rs.length → ∃ r, rs[firstB rs p]? = some r ∧ (r.length : Int) ≤ p
  | [], _, h => absurd h (Nat.not_lt_zero _)
  | s :: rs, p, h => by
    unfold firstB at h ⊢
    split
    · rename_i hn
      exact ⟨s, rfl, hn⟩
    · rename_i hn
      rw [if_neg hn] at h
      obtain ⟨r, e, q⟩ := firstB_in rs p (Nat.lt_of_succ_lt_succ h)
      exact ⟨r, by simpa using e, q⟩
theorem firstB_is : ∀ (rs : List (List Int)) (p : Int) (i : Nat), i ≤ rs.length → (∀ j r, j < i → rs[j]? = some r → p < (r.length : Int)) → (∀ r, rs[i]? = some r → (r.length : Int) ≤ p) → firstB rs p = i
  | [], _, i, h, _, _ => by
    have : i = 0 := Nat.le_zero.mp h
    subst this
    rfl
  | s :: rs, p, 0, _, _, h2 => by
    unfold firstB
    rw [if_pos (h2 s rfl)]
  | s :: rs, p, i + 1, h, h1, h2 => by
    have h0 := h1 0 s (Nat.succ_pos _) rfl
    unfold firstB
    rw [if_neg (by omega), firstB_is rs p i (Nat.le_of_succ_le_succ h) (fun j r hj e => h1 (j + 1) r (Nat.succ_lt_succ hj) (by simpa using e)) fun r e => h2 r (by simpa using e)]
theorem place_new : ∀ (rs : List (List Int)) (a p : Int), firstB rs p = rs.length → place rs a p = rs ++ [[a]]
  | [], _, _, _ => rfl
  | r :: rs, a, p, h => by
    unfold firstB at h
    unfold place
    split at h
    · exact absurd h (by rw [List.length_cons]; omega)
    · rename_i hn
      rw [if_neg hn, place_new rs a p (by rw [List.length_cons] at h; omega)]
      rfl
theorem place_at : ∀ (rs : List (List Int)) (a p : Int) (r : List Int), rs[firstB rs p]? = some r → place rs a p = rs.set (firstB rs p) (r ++ [a])
  | [], _, _, _, h => by simp at h
  | s :: rs, a, p, r, h => by
    unfold firstB at h ⊢
    unfold place
    split
    · rename_i hn
      rw [if_pos hn] at h
      have e : s = r := Option.some.inj h
      subst e
      rfl
    · rename_i hn
      rw [if_neg hn] at h
      rw [place_at rs a p r (by simpa using h)]
      rfl
theorem place_len (rs : List (List Int)) (a p : Int) : (place rs a p).length = if firstB rs p = rs.length then rs.length + 1 else rs.length := by
  by_cases h : firstB rs p = rs.length
  · rw [if_pos h, place_new rs a p h, List.length_append]
    rfl
  · have hl := firstB_le rs p
    obtain ⟨r, e, _⟩ := firstB_in rs p (by omega)
    rw [if_neg h, place_at rs a p r e, List.length_set]
/-- all in order -/
def settleL (gs : List (Int × Int)) : List (List Int) := gs.foldl (fun rs g => place rs g.1 g.2) []
theorem settleL_snoc (gs : List (Int × Int)) (g : Int × Int) : settleL (gs ++ [g]) = place (settleL gs) g.1 g.2 := by
  unfold settleL
  rw [List.foldl_append]
  rfl
theorem settleL_take {gs : List (Int × Int)} {i : Nat} {g : Int × Int} (h : gs[i]? = some g) : settleL (gs.take (i + 1)) = place (settleL (gs.take i)) g.1 g.2 := by
  rw [List.take_add_one, h]
  exact settleL_snoc _ _
theorem place_count (rs : List (List Int)) (a p : Int) : (place rs a p).flatten.length = rs.flatten.length + 1 := by
  induction rs with
  | nil => rfl
  | cons r rs ih =>
    unfold place
    split
    · simp only [List.flatten_cons, List.length_append, List.length_cons, List.length_nil]
      omega
    · simp only [List.flatten_cons, List.length_append]
      omega
theorem settleL_count (gs : List (Int × Int)) : (settleL gs).flatten.length = gs.length := by
  suffices h : ∀ (gs : List (Int × Int)) (rs : List (List Int)), (gs.foldl (fun rs g => place rs g.1 g.2) rs).flatten.length = rs.flatten.length + gs.length by
    have q := h gs []
    rw [List.flatten_nil, List.length_nil, Nat.zero_add] at q
    exact q
  intro gs
  induction gs with
  | nil => intro rs; rfl
  | cons g gs ih =>
    intro rs
    rw [List.foldl_cons, ih, place_count, List.length_cons]
    omega
theorem place_ne (rs : List (List Int)) (a p : Int) (h : ∀ r ∈ rs, r ≠ []) : ∀ r ∈ place rs a p, r ≠ [] := by
  induction rs with
  | nil =>
    intro r hr
    rw [List.mem_singleton.mp hr]
    exact List.cons_ne_nil _ _
  | cons s rs ih =>
    unfold place
    split
    · intro r hr
      rcases List.mem_cons.mp hr with e | hr
      · rw [e]
        simp
      · exact h r (List.mem_cons_of_mem _ hr)
    · intro r hr
      rcases List.mem_cons.mp hr with e | hr
      · rw [e]
        exact h s List.mem_cons_self
      · exact ih (fun r hr => h r (List.mem_cons_of_mem _ hr)) r hr
theorem settleL_ne (gs : List (Int × Int)) : ∀ r ∈ settleL gs, r ≠ [] := by
  suffices h : ∀ (gs : List (Int × Int)) (rs : List (List Int)), (∀ r ∈ rs, r ≠ []) → ∀ r ∈ gs.foldl (fun rs g => place rs g.1 g.2) rs, r ≠ [] from h gs [] (fun r hr => absurd hr (by simp))
  intro gs
  induction gs with
  | nil => intro rs h; exact h
  | cons g gs ih =>
    intro rs h
    rw [List.foldl_cons]
    exact ih _ (place_ne rs _ _ h)
theorem len_le_flat : ∀ (rs : List (List Int)), (∀ r ∈ rs, r ≠ []) → rs.length ≤ rs.flatten.length
  | [], _ => Nat.le_refl _
  | r :: rs, h => by
    have h1 := h r List.mem_cons_self
    have h2 := len_le_flat rs fun r hr => h r (List.mem_cons_of_mem _ hr)
    have h3 : 0 < r.length := List.length_pos_iff.mpr h1
    rw [List.flatten_cons, List.length_append, List.length_cons]
    omega
theorem room_le_flat : ∀ (rs : List (List Int)) (r : List Int), r ∈ rs → r.length ≤ rs.flatten.length
  | s :: rs, r, h => by
    rw [List.flatten_cons, List.length_append]
    rcases List.mem_cons.mp h with e | h
    · rw [e]
      omega
    · have := room_le_flat rs r h
      omega
theorem settleL_len (gs : List (Int × Int)) : (settleL gs).length ≤ gs.length := by
  rw [← settleL_count gs]
  exact len_le_flat _ (settleL_ne gs)
theorem settleL_room {gs : List (Int × Int)} {r : List Int} (h : r ∈ settleL gs) : r.length ≤ gs.length := by
  rw [← settleL_count gs]
  exact room_le_flat _ _ h
/-- sizes never rise -/
def Falls (rs : List (List Int)) : Prop := rs.Pairwise fun r s => s.length ≤ r.length
theorem place_mem {rs : List (List Int)} {a p : Int} {r : List Int} (h : r ∈ place rs a p) : r ∈ rs ∨ (∃ s ∈ rs, r = s ++ [a] ∧ (s.length : Int) ≤ p) ∨ r = [a] := by
  induction rs with
  | nil => exact .inr (.inr (List.mem_singleton.mp h))
  | cons s rs ih =>
    unfold place at h
    split at h
    · rename_i hn
      rcases List.mem_cons.mp h with e | h
      · exact .inr (.inl ⟨s, List.mem_cons_self, e, hn⟩)
      · exact .inl (List.mem_cons_of_mem _ h)
    · rcases List.mem_cons.mp h with e | h
      · rw [e]
        exact .inl List.mem_cons_self
      · rcases ih h with q | ⟨t, ht, q⟩ | q
        · exact .inl (List.mem_cons_of_mem _ q)
        · exact .inr (.inl ⟨t, List.mem_cons_of_mem _ ht, q⟩)
        · exact .inr (.inr q)
theorem place_falls (rs : List (List Int)) (a p : Int) (hp : 0 ≤ p) (h : Falls rs) : Falls (place rs a p) := by
  induction rs with
  | nil => exact List.pairwise_singleton _ _
  | cons s rs ih =>
    obtain ⟨h1, h2⟩ := List.pairwise_cons.mp h
    unfold place
    split
    · refine List.pairwise_cons.mpr ⟨fun r hr => ?_, h2⟩
      have := h1 r hr
      rw [List.length_append]
      omega
    · rename_i hn
      refine List.pairwise_cons.mpr ⟨fun r hr => ?_, ih h2⟩
      rcases place_mem hr with q | ⟨t, ht, q, q2⟩ | q
      · exact h1 r q
      · rw [q, List.length_append, List.length_singleton]
        omega
      · rw [q, List.length_singleton]
        omega
theorem settleL_falls (gs : List (Int × Int)) (h : ∀ g ∈ gs, 0 ≤ g.2) : Falls (settleL gs) := by
  suffices q : ∀ (gs : List (Int × Int)) (rs : List (List Int)), (∀ g ∈ gs, 0 ≤ g.2) → Falls rs → Falls (gs.foldl (fun rs g => place rs g.1 g.2) rs) from q gs [] h List.Pairwise.nil
  intro gs
  induction gs with
  | nil => intro rs _ hr; exact hr
  | cons g gs ih =>
    intro rs hg hr
    rw [List.foldl_cons]
    exact ih _ (fun x hx => hg x (List.mem_cons_of_mem _ hx)) (place_falls rs _ _ (hg g List.mem_cons_self) hr)
/-! ### from the eldest on -/
def byAge (gs : List (Int × Int)) : List (Int × Int) := gs.mergeSort fun g h => decide (h.1 ≤ g.1)
theorem byAge_perm (gs : List (Int × Int)) : (byAge gs).Perm gs := List.mergeSort_perm _ _
theorem byAge_sorted (gs : List (Int × Int)) : (byAge gs).Pairwise fun g h => h.1 ≤ g.1 := by
  have q := List.pairwise_mergeSort (le := fun (g h : Int × Int) => decide (h.1 ≤ g.1)) (fun a b c h1 h2 => by
    have h1 := of_decide_eq_true h1
    have h2 := of_decide_eq_true h2
    exact decide_eq_true (by omega)) (fun a b => by
    by_cases h : b.1 ≤ a.1
    · simp [h]
    · have : a.1 ≤ b.1 := by omega
      simp [this]) gs
  exact q.imp fun h => of_decide_eq_true h
theorem byAge_length (gs : List (Int × Int)) : (byAge gs).length = gs.length := (byAge_perm gs).length_eq
theorem sorted_uniq {α : Type} (k : α → Int) : ∀ {l m : List α}, l.Perm m → (l.map k).Nodup → l.Pairwise (fun g h => k h ≤ k g) → m.Pairwise (fun g h => k h ≤ k g) → l = m
  | [], m, p, _, _, _ => by rw [List.nil_perm.mp p]
  | x :: l, [], p, _, _, _ => absurd p.length_eq (by simp)
  | x :: l, y :: m, p, nd, h1, h2 => by
    have nd' : (k x :: l.map k).Nodup := nd
    obtain ⟨n1, n2⟩ := List.nodup_cons.mp nd'
    obtain ⟨a1, a2⟩ := List.pairwise_cons.mp h1
    obtain ⟨b1, b2⟩ := List.pairwise_cons.mp h2
    have e : x = y := by
      rcases List.mem_cons.mp (p.mem_iff.mp List.mem_cons_self) with e | hx
      · exact e
      · have hy : y ∈ x :: l := p.mem_iff.mpr List.mem_cons_self
        rcases List.mem_cons.mp hy with e | hy
        · exact e.symm
        · have c1 := b1 x hx
          have c2 := a1 y hy
          have c3 : k x = k y := by omega
          exact absurd (List.mem_map.mpr ⟨y, hy, c3.symm⟩) n1
    subst e
    rw [sorted_uniq k (List.Perm.cons_inv p) n2 a2 b2]
def settle (gs : List (Int × Int)) : List (List Int) := settleL (byAge gs)
/-- guests that there can be -/
structure Fit (gs : List (Int × Int)) : Prop where
  nd : (gs.map (·.1)).Nodup
  pos : ∀ g ∈ gs, 0 ≤ g.2
theorem Fit.perm {gs hs : List (Int × Int)} (f : Fit gs) (p : hs.Perm gs) : Fit hs := ⟨((p.map (·.1)).nodup_iff).mpr f.nd, fun g hg => f.pos g (p.mem_iff.mp hg)⟩
theorem Fit.byAge {gs : List (Int × Int)} (f : Fit gs) : Fit (byAge gs) := f.perm (byAge_perm gs)
theorem byAge_of {gs hs : List (Int × Int)} (f : Fit gs) (p : hs.Perm gs) (h : hs.Pairwise fun g h => h.1 ≤ g.1) : hs = byAge gs :=
  sorted_uniq (·.1) (p.trans (byAge_perm gs).symm) (f.perm p).nd h (byAge_sorted gs)
theorem byAge_congr {gs hs : List (Int × Int)} (f : Fit gs) (p : hs.Perm gs) : byAge hs = byAge gs :=
  byAge_of f ((byAge_perm hs).trans p) (byAge_sorted hs)
theorem ages_of {gs : List (Int × Int)} (f : Fit gs) {ns : List Int} (p : ns.Perm (gs.map (·.1))) (h : ns.Pairwise (· ≥ ·)) : ns = (byAge gs).map (·.1) := by
  refine sorted_uniq (fun x : Int => x) (p.trans ((byAge_perm gs).map (·.1)).symm) ?_ (h.imp fun q => q) ?_
  · rw [List.map_id']
    exact (p.nodup_iff).mpr f.nd
  · rw [List.pairwise_map]
    exact byAge_sorted gs
theorem settle_congr {gs hs : List (Int × Int)} (f : Fit gs) (p : hs.Perm gs) : settle hs = settle gs := by
  unfold settle
  rw [byAge_congr f p]
end El
namespace El
/-! ### who has more elders than they bear -/
def down (ns : List Int) : List Int := ns.mergeSort fun a b => decide (b ≤ a)
theorem down_perm (ns : List Int) : (down ns).Perm ns := List.mergeSort_perm _ _
theorem down_sorted (ns : List Int) : (down ns).Pairwise (· ≥ ·) := by
  have q := List.pairwise_mergeSort (le := fun (g h : Int) => decide (h ≤ g)) (fun a b c h1 h2 => by
    have h1 := of_decide_eq_true h1
    have h2 := of_decide_eq_true h2
    exact decide_eq_true (by omega)) (fun a b => by
    by_cases h : b ≤ a
    · simp [h]
    · have : a ≤ b := by omega
      simp [this]) ns
  exact q.imp fun h => of_decide_eq_true h
theorem desc_uniq : ∀ {l m : List Int}, l.Perm m → l.Pairwise (· ≥ ·) → m.Pairwise (· ≥ ·) → l = m
  | [], m, p, _, _ => by rw [List.nil_perm.mp p]
  | x :: l, [], p, _, _ => absurd p.length_eq (by simp)
  | x :: l, y :: m, p, h1, h2 => by
    obtain ⟨a1, a2⟩ := List.pairwise_cons.mp h1
    obtain ⟨b1, b2⟩ := List.pairwise_cons.mp h2
    have e : x = y := by
      rcases List.mem_cons.mp (p.mem_iff.mp List.mem_cons_self) with e | hx
      · exact e
      · have hy : y ∈ x :: l := p.mem_iff.mpr List.mem_cons_self
        rcases List.mem_cons.mp hy with e | hy
        · exact e.symm
        · have c1 := b1 x hx
          have c2 := a1 y hy
          omega
    subst e
    rw [desc_uniq (List.Perm.cons_inv p) a2 b2]
theorem down_is {l ns : List Int} (p : l.Perm ns) (h : l.Pairwise (· ≥ ·)) : l = down ns := desc_uniq (p.trans (down_perm ns).symm) h (down_sorted ns)
def pof (gs : List (Int × Int)) (a : Int) : Int := match gs.find? fun g => decide (g.1 = a) with | some g => g.2 | none => 0
theorem pof_is : ∀ {gs : List (Int × Int)} {g : Int × Int}, (gs.map (·.1)).Nodup → g ∈ gs → pof gs g.1 = g.2
  | x :: gs, g, nd, h => by
    have nd' : (x.1 :: gs.map (·.1)).Nodup := nd
    obtain ⟨n1, n2⟩ := List.nodup_cons.mp nd'
    rcases List.mem_cons.mp h with e | h
    · subst e
      unfold pof
      rw [List.find?_cons_of_pos (by simp)]
    · have n : ¬ x.1 = g.1 := fun z => n1 (by rw [z]; exact List.mem_map.mpr ⟨g, h, rfl⟩)
      have := pof_is n2 h
      unfold pof at this ⊢
      rw [List.find?_cons_of_neg (by simpa using n)]
      exact this
def upIn (pf : Int → Int) : List Int → Nat → Option Int
  | [], _ => none
  | a :: l, i => if pf a < (i : Int) then some a else upIn pf l (i + 1)
theorem upIn_none {pf : Int → Int} : ∀ {l : List Int} {k : Nat}, (∀ (i : Nat) (a : Int), l[i]? = some a → ((i + k : Nat) : Int) ≤ pf a) → upIn pf l k = none
  | [], _, _ => rfl
  | a :: l, k, h => by
    unfold upIn
    have h0 := h 0 a rfl
    rw [if_neg (by omega)]
    exact upIn_none fun i b e => by
      have := h (i + 1) b (by simpa using e)
      omega
theorem upIn_at {pf : Int → Int} {l : List Int} {a : Int} : ∀ {i k : Nat}, l[i]? = some a → (∀ (j : Nat) (b : Int), j < i → l[j]? = some b → ((j + k : Nat) : Int) ≤ pf b) → pf a < ((i + k : Nat) : Int) → upIn pf l k = some a := by
  induction l with
  | nil => intro i k e; simp at e
  | cons x l ih =>
    intro i k e h1 h2
    unfold upIn
    cases i with
    | zero =>
      obtain rfl : x = a := Option.some.inj e
      rw [if_pos (by omega)]
    | succ i =>
      have h0 := h1 0 x (Nat.succ_pos _) rfl
      rw [if_neg (by omega)]
      exact ih (i := i) (by simpa using e) (fun j b hj e' => by
        have := h1 (j + 1) b (Nat.succ_lt_succ hj) (by simpa using e')
        omega) (by omega)
def eldUp (gs : List (Int × Int)) (ns : List Int) : Option Int := upIn (pof gs) (down ns) 0
def upsetOf (gs : List (Int × Int)) : List (List Int) → Nat → Option (Nat × Int)
  | [], _ => none
  | r :: rs, i => match eldUp gs r with | some a => some (i, a) | none => upsetOf gs rs (i + 1)
theorem upsetOf_none {gs : List (Int × Int)} : ∀ {rs : List (List Int)} {k : Nat}, (∀ r ∈ rs, eldUp gs r = none) → upsetOf gs rs k = none
  | [], _, _ => rfl
  | r :: rs, k, h => by
    unfold upsetOf
    rw [h r List.mem_cons_self]
    exact upsetOf_none fun s m => h s (List.mem_cons_of_mem _ m)
theorem upsetOf_at {gs : List (Int × Int)} {rs : List (List Int)} {r : List Int} {a : Int} : ∀ {i k : Nat}, rs[i]? = some r → (∀ (j : Nat) (s : List Int), j < i → rs[j]? = some s → eldUp gs s = none) → eldUp gs r = some a → upsetOf gs rs k = some (i + k, a) := by
  induction rs with
  | nil => intro i k e; simp at e
  | cons x rs ih =>
    intro i k e h1 h2
    unfold upsetOf
    cases i with
    | zero =>
      obtain rfl : x = r := Option.some.inj e
      rw [h2, Nat.zero_add]
    | succ i =>
      rw [h1 0 x (Nat.succ_pos _) rfl]
      have z := ih (i := i) (k := k + 1) (by simpa using e) (fun j b hj e' => h1 (j + 1) b (Nat.succ_lt_succ hj) (by simpa using e')) h2
      show upsetOf gs rs (k + 1) = _
      rw [z, show i + (k + 1) = i + 1 + k by omega]
/-! ### the rooms by age are in peace -/
def Fine (L : List (Int × Int)) (r : List Int) : Prop := r.Pairwise (· ≥ ·) ∧ ∀ (i : Nat) (a : Int), r[i]? = some a → ∃ g ∈ L, g.1 = a ∧ (i : Int) ≤ g.2
theorem Fine.mem {L : List (Int × Int)} {r : List Int} (h : Fine L r) {a : Int} (m : a ∈ r) : ∃ g ∈ L, g.1 = a := by
  obtain ⟨i, e⟩ := List.mem_iff_getElem?.mp m
  obtain ⟨g, h1, h2, _⟩ := h.2 i a e
  exact ⟨g, h1, h2⟩
theorem Fine.more {L M : List (Int × Int)} {r : List Int} (h : Fine L r) (k : ∀ g ∈ L, g ∈ M) : Fine M r := ⟨h.1, fun i a e => by
  obtain ⟨g, h1, h2⟩ := h.2 i a e
  exact ⟨g, k g h1, h2⟩⟩
theorem settleL_fine {L : List (Int × Int)} (hL : L.Pairwise fun g h => h.1 ≤ g.1) (hp : ∀ g ∈ L, 0 ≤ g.2) : ∀ i, i ≤ L.length → ∀ r ∈ settleL (L.take i), Fine (L.take i) r
  | 0, _, r, hr => by
    rw [List.take_zero] at hr
    exact absurd hr (List.not_mem_nil)
  | i + 1, hi, r, hr => by
    have ih := settleL_fine hL hp i (by omega)
    have eg : L[i]? = some L[i] := List.getElem?_eq_getElem hi
    generalize hg : L[i] = g at eg
    have hm : g ∈ L := List.mem_of_getElem? eg
    have hle : ∀ x ∈ L.take i, g.1 ≤ x.1 := by
      have e2 : L = L.take i ++ g :: L.drop (i + 1) := by
        have := List.getElem_cons_drop (as := L) (i := i) hi
        rw [hg] at this
        rw [this, List.take_append_drop]
      rw [e2] at hL
      exact fun x hx => (List.pairwise_append.mp hL).2.2 x hx g List.mem_cons_self
    have et : L.take (i + 1) = L.take i ++ [g] := by
      rw [List.take_add_one, eg]
      rfl
    rw [settleL_take eg] at hr
    rw [et]
    rcases place_mem hr with q | ⟨s, hs, e, hle2⟩ | q
    · exact (ih r q).more fun x hx => List.mem_append_left _ hx
    · have hF := ih s hs
      subst e
      refine ⟨?_, fun j a e => ?_⟩
      · rw [List.pairwise_append]
        refine ⟨hF.1, List.pairwise_singleton _ _, fun x hx y hy => ?_⟩
        rw [List.mem_singleton.mp hy]
        obtain ⟨z, hz, rfl⟩ := hF.mem hx
        exact hle z hz
      · by_cases hj : j < s.length
        · rw [List.getElem?_append_left hj] at e
          obtain ⟨z, h1, h2⟩ := hF.2 j a e
          exact ⟨z, List.mem_append_left _ h1, h2⟩
        · rw [List.getElem?_append_right (by omega)] at e
          have hj0 : j - s.length = 0 := by
            have := (List.getElem?_eq_some_iff.mp e).1
            rw [List.length_singleton] at this
            omega
          rw [hj0] at e
          obtain rfl : g.1 = a := Option.some.inj e
          exact ⟨g, List.mem_append_right _ (List.mem_singleton.mpr rfl), rfl, by omega⟩
    · subst q
      refine ⟨List.pairwise_singleton _ _, fun j a e => ?_⟩
      have hj0 : j = 0 := by
        have := (List.getElem?_eq_some_iff.mp e).1
        rw [List.length_singleton] at this
        omega
      subst hj0
      obtain rfl : g.1 = a := Option.some.inj e
      exact ⟨g, List.mem_append_right _ (List.mem_singleton.mpr rfl), rfl, hp g hm⟩
theorem settle_fine {gs : List (Int × Int)} (f : Fit gs) {r : List Int} (hr : r ∈ settle gs) : Fine gs r := by
  have h := settleL_fine (byAge_sorted gs) f.byAge.pos (byAge gs).length (Nat.le_refl _) r (by rw [List.take_length]; exact hr)
  rw [List.take_length] at h
  exact h.more fun g hg => (byAge_perm gs).mem_iff.mp hg
theorem settle_calm {gs : List (Int × Int)} (f : Fit gs) {r : List Int} (hr : r ∈ settle gs) : eldUp gs r = none := by
  obtain ⟨h1, h2⟩ := settle_fine f hr
  unfold eldUp
  rw [← down_is (List.Perm.refl r) h1]
  refine upIn_none fun i a e => ?_
  obtain ⟨g, hg, rfl, hl⟩ := h2 i a e
  rw [pof_is f.nd hg]
  exact hl
theorem place_perm : ∀ (rs : List (List Int)) (a p : Int), (place rs a p).flatten.Perm (a :: rs.flatten)
  | [], a, p => List.Perm.refl _
  | r :: rs, a, p => by
    unfold place
    split
    · rw [List.flatten_cons, List.flatten_cons, List.append_assoc]
      exact List.perm_middle
    · rw [List.flatten_cons, List.flatten_cons]
      exact ((place_perm rs a p).append_left r).trans List.perm_middle
theorem foldl_place_perm : ∀ (L : List (Int × Int)) (rs : List (List Int)), (L.foldl (fun rs g => place rs g.1 g.2) rs).flatten.Perm (L.map (·.1) ++ rs.flatten)
  | [], rs => List.Perm.refl _
  | g :: L, rs => by
    rw [List.foldl_cons]
    refine (foldl_place_perm L _).trans (((place_perm rs g.1 g.2).append_left _).trans ?_)
    rw [List.map_cons, List.cons_append]
    exact List.perm_middle
theorem settle_flat (gs : List (Int × Int)) : (settle gs).flatten.Perm (gs.map (·.1)) := by
  have h := foldl_place_perm (byAge gs) []
  rw [List.flatten_nil, List.append_nil] at h
  exact h.trans ((byAge_perm gs).map _)
/-! ### those behind the first j rooms -/
theorem take_place_lt : ∀ (rs : List (List Int)) (a p : Int) (j : Nat), firstB rs p < j → (place rs a p).take j = place (rs.take j) a p
  | _, _, _, 0, h => absurd h (Nat.not_lt_zero _)
  | [], a, p, j + 1, _ => by
    rw [List.take_nil]
    unfold place
    rw [List.take_succ_cons, List.take_nil]
  | r :: rs, a, p, j + 1, h => by
    unfold firstB at h
    rw [List.take_succ_cons]
    unfold place
    split at h
    · rename_i q
      rw [if_pos q, if_pos q, List.take_succ_cons]
    · rename_i q
      rw [if_neg q, if_neg q, List.take_succ_cons, take_place_lt rs a p j (by omega)]
theorem take_place_ge : ∀ (rs : List (List Int)) (a p : Int) (j : Nat), j ≤ firstB rs p → (place rs a p).take j = rs.take j
  | _, _, _, 0, _ => by rw [List.take_zero, List.take_zero]
  | [], a, p, j + 1, h => absurd h (Nat.not_succ_le_zero _)
  | r :: rs, a, p, j + 1, h => by
    unfold firstB at h
    unfold place
    split at h
    · exact absurd h (Nat.not_succ_le_zero _)
    · rename_i q
      rw [if_neg q, List.take_succ_cons, List.take_succ_cons, take_place_ge rs a p j (by omega)]
theorem drop_place_lt : ∀ (rs : List (List Int)) (a p : Int) (j : Nat), firstB rs p < j → (place rs a p).drop j = rs.drop j
  | _, _, _, 0, h => absurd h (Nat.not_lt_zero _)
  | [], a, p, j + 1, _ => by
    unfold place
    rw [List.drop_succ_cons, List.drop_nil, List.drop_nil]
  | r :: rs, a, p, j + 1, h => by
    unfold firstB at h
    unfold place
    split at h
    · rename_i q
      rw [if_pos q, List.drop_succ_cons, List.drop_succ_cons]
    · rename_i q
      rw [if_neg q, List.drop_succ_cons, List.drop_succ_cons, drop_place_lt rs a p j (by omega)]
theorem drop_place_ge : ∀ (rs : List (List Int)) (a p : Int) (j : Nat), j ≤ firstB rs p → (place rs a p).drop j = place (rs.drop j) a p
  | _, _, _, 0, _ => by rw [List.drop_zero, List.drop_zero]
  | [], a, p, j + 1, h => absurd h (Nat.not_succ_le_zero _)
  | r :: rs, a, p, j + 1, h => by
    unfold firstB at h
    split at h
    · exact absurd h (Nat.not_succ_le_zero _)
    · rename_i q
      rw [List.drop_succ_cons]
      show (if (r.length : Int) ≤ p then (r ++ [a]) :: rs else r :: place rs a p).drop (j + 1) = _
      rw [if_neg q, List.drop_succ_cons, drop_place_ge rs a p j (by omega)]
def kept (j : Nat) : List (List Int) → List (Int × Int) → List (Int × Int)
  | _, [] => []
  | rs, g :: L => if firstB rs g.2 < j then g :: kept j (place rs g.1 g.2) L else kept j (place rs g.1 g.2) L
def gone (j : Nat) : List (List Int) → List (Int × Int) → List (Int × Int)
  | _, [] => []
  | rs, g :: L => if firstB rs g.2 < j then gone j (place rs g.1 g.2) L else g :: gone j (place rs g.1 g.2) L
theorem gone_sub (j : Nat) : ∀ (L : List (Int × Int)) (rs : List (List Int)), ∀ g ∈ gone j rs L, g ∈ L
  | [], _, g, h => h
  | x :: L, rs, g, h => by
    unfold gone at h
    split at h
    · exact List.mem_cons_of_mem _ (gone_sub j L _ g h)
    · rcases List.mem_cons.mp h with e | h
      · rw [e]
        exact List.mem_cons_self
      · exact List.mem_cons_of_mem _ (gone_sub j L _ g h)
theorem kept_settle (j : Nat) : ∀ (L : List (Int × Int)) (rs : List (List Int)), (kept j rs L).foldl (fun rs g => place rs g.1 g.2) (rs.take j) = (L.foldl (fun rs g => place rs g.1 g.2) rs).take j
  | [], _ => rfl
  | g :: L, rs => by
    rw [List.foldl_cons]
    unfold kept
    split
    · rename_i h
      rw [List.foldl_cons, ← take_place_lt rs g.1 g.2 j h]
      exact kept_settle j L _
    · rename_i h
      rw [← take_place_ge rs g.1 g.2 j (by omega)]
      exact kept_settle j L _
theorem gone_settle (j : Nat) : ∀ (L : List (Int × Int)) (rs : List (List Int)), ((L.foldl (fun rs g => place rs g.1 g.2) rs).drop j).flatten.Perm ((gone j rs L).map (·.1) ++ (rs.drop j).flatten)
  | [], _ => List.Perm.refl _
  | g :: L, rs => by
    rw [List.foldl_cons]
    refine (gone_settle j L _).trans ?_
    show ((gone j (place rs g.1 g.2) L).map (·.1) ++ _).Perm ((if firstB rs g.2 < j then gone j (place rs g.1 g.2) L else g :: gone j (place rs g.1 g.2) L).map (·.1) ++ _)
    split
    · rename_i h
      rw [drop_place_lt rs g.1 g.2 j h]
    · rename_i h
      rw [drop_place_ge rs g.1 g.2 j (by omega), List.map_cons, List.cons_append]
      exact ((place_perm (rs.drop j) g.1 g.2).append_left _).trans List.perm_middle
theorem kept_filter (j : Nat) : ∀ (L : List (Int × Int)) (rs : List (List Int)) (S : List Int), (L.map (·.1)).Nodup → (∀ g ∈ L, g.1 ∈ S ↔ g.1 ∈ (gone j rs L).map (·.1)) → L.filter (fun g => !decide (g.1 ∈ S)) = kept j rs L
  | [], _, _, _, _ => rfl
  | g :: L, rs, S, nd, h => by
    have nd' : (g.1 :: L.map (·.1)).Nodup := nd
    obtain ⟨n1, n2⟩ := List.nodup_cons.mp nd'
    have h0 := h g List.mem_cons_self
    unfold kept
    by_cases q : firstB rs g.2 < j
    · have eg : gone j rs (g :: L) = gone j (place rs g.1 g.2) L := by
        show (if _ then _ else _) = _
        rw [if_pos q]
      rw [eg] at h h0
      have ng : ¬ g.1 ∈ S := fun z => by
        obtain ⟨x, hx, e⟩ := List.mem_map.mp (h0.mp z)
        exact n1 (List.mem_map.mpr ⟨x, gone_sub j L _ x hx, e⟩)
      rw [if_pos q, List.filter_cons_of_pos (by simpa using ng), kept_filter j L _ S n2 fun x hx => h x (List.mem_cons_of_mem _ hx)]
    · have eg : gone j rs (g :: L) = g :: gone j (place rs g.1 g.2) L := by
        show (if _ then _ else _) = _
        rw [if_neg q]
      rw [eg] at h h0
      have ng : g.1 ∈ S := h0.mpr List.mem_cons_self
      rw [if_neg q, List.filter_cons_of_neg (by simpa using ng)]
      refine kept_filter j L _ S n2 fun x hx => ?_
      have hx1 := h x (List.mem_cons_of_mem _ hx)
      rw [hx1, List.map_cons, List.mem_cons]
      have ne : ¬ x.1 = g.1 := fun z => n1 (by rw [← z]; exact List.mem_map.mpr ⟨x, hx, rfl⟩)
      exact ⟨fun z => z.resolve_left ne, .inr⟩
theorem Fit.filter {gs : List (Int × Int)} (f : Fit gs) (k : Int × Int → Bool) : Fit (gs.filter k) :=
  ⟨f.nd.sublist (List.filter_sublist.map _), fun g hg => f.pos g (List.mem_filter.mp hg).1⟩
theorem byAge_filter {gs : List (Int × Int)} (f : Fit gs) (k : Int × Int → Bool) : byAge (gs.filter k) = (byAge gs).filter k :=
  (byAge_of (f.filter k) ((byAge_perm gs).filter k) ((byAge_sorted gs).sublist List.filter_sublist)).symm
theorem settle_left {gs : List (Int × Int)} (f : Fit gs) {S : List Int} {j : Nat} (h : ∀ a, a ∈ S ↔ a ∈ ((settle gs).drop j).flatten) : settle (gs.filter fun g => !decide (g.1 ∈ S)) = (settle gs).take j := by
  unfold settle
  rw [byAge_filter f]
  have hg := gone_settle j (byAge gs) []
  rw [List.drop_nil, List.flatten_nil, List.append_nil] at hg
  rw [kept_filter j (byAge gs) [] S f.byAge.nd fun g _ => (h g.1).trans hg.mem_iff]
  have := kept_settle j (byAge gs) []
  rw [List.take_nil] at this
  exact this
def sentAway (gs : List (Int × Int)) (j : Nat) : List Int := down ((settle gs).drop j).flatten
theorem sentAway_mem (gs : List (Int × Int)) (j : Nat) (a : Int) : a ∈ sentAway gs j ↔ a ∈ ((settle gs).drop j).flatten := (down_perm _).mem_iff
end El
namespace El
/-! ### one guest more -/
/-- b is s with one more put in -/
def Plus (s b : List Int) : Prop := ∃ (A : List Int) (m : Int) (B : List Int), s = A ++ B ∧ b = A ++ m :: B
/-- where s has g, b has m ahead -/
def Swap (s b : List Int) : Prop := ∃ (A : List Int) (m : Int) (B : List Int) (g : Int) (C : List Int), s = A ++ B ++ g :: C ∧ b = A ++ m :: B ++ C
def Alike (s b : List Int) : Prop := s = b ∨ Swap s b
theorem Plus.len {s b : List Int} (h : Plus s b) : b.length = s.length + 1 := by
  obtain ⟨A, m, B, rfl, rfl⟩ := h
  rw [List.length_append, List.length_append, List.length_cons]
  omega
theorem Alike.len {s b : List Int} (h : Alike s b) : b.length = s.length := by
  rcases h with rfl | ⟨A, m, B, g, C, rfl, rfl⟩
  · rfl
  · simp only [List.length_append, List.length_cons]
    omega
theorem Plus.snoc {s b : List Int} (h : Plus s b) (a : Int) : Plus (s ++ [a]) (b ++ [a]) := by
  obtain ⟨A, m, B, rfl, rfl⟩ := h
  exact ⟨A, m, B ++ [a], by rw [List.append_assoc], by rw [List.append_assoc]; rfl⟩
theorem Alike.snoc {s b : List Int} (h : Alike s b) (a : Int) : Alike (s ++ [a]) (b ++ [a]) := by
  rcases h with rfl | ⟨A, m, B, g, C, rfl, rfl⟩
  · exact .inl rfl
  · exact .inr ⟨A, m, B, g, C ++ [a], by simp only [List.append_assoc, List.cons_append], by simp only [List.append_assoc, List.cons_append]⟩
inductive Near : List (List Int) → List (List Int) → Prop
  | new (m : Int) : Near [] [[m]]
  | here {s b : List Int} (h : Plus s b) (rest : List (List Int)) : Near (s :: rest) (b :: rest)
  | skip {s b : List Int} {ss bs : List (List Int)} (h : Alike s b) (r : Near ss bs) : Near (s :: ss) (b :: bs)
theorem Near.place (rs : List (List Int)) (a p : Int) : Near rs (El.place rs a p) := by
  induction rs with
  | nil => exact .new a
  | cons r rs ih =>
    unfold El.place
    split
    · exact .here ⟨r, a, [], by simp, rfl⟩ rs
    · exact .skip (.inl rfl) ih
theorem Near.step {s b : List (List Int)} (h : Near s b) (a p : Int) (hp : 0 ≤ p) : Near (El.place s a p) (El.place b a p) := by
  induction h with
  | new m =>
    unfold El.place
    split
    · exact .here (s := [a]) (b := [m] ++ [a]) ⟨[], m, [a], rfl, rfl⟩ []
    · refine .skip (.inr ⟨[], m, [], a, [], rfl, rfl⟩) ?_
      exact .new a
  | @here s b hb rest =>
    have hl := hb.len
    unfold El.place
    by_cases h1 : (s.length : Int) ≤ p
    · rw [if_pos h1]
      by_cases h2 : (b.length : Int) ≤ p
      · rw [if_pos h2]
        exact .here (hb.snoc a) rest
      · rw [if_neg h2]
        obtain ⟨A, m, B, rfl, rfl⟩ := hb
        exact .skip (.inr ⟨A, m, B, a, [], rfl, by simp⟩) (Near.place rest a p)
    · rw [if_neg h1, if_neg (by omega)]
      exact .here hb _
  | @skip s b ss bs hs r ih =>
    have hl := hs.len
    unfold El.place
    by_cases h1 : (s.length : Int) ≤ p
    · rw [if_pos h1, if_pos (by omega)]
      exact .skip (hs.snoc a) r
    · rw [if_neg h1, if_neg (by omega)]
      exact .skip hs ih
theorem Near.fold {s b : List (List Int)} (h : Near s b) : ∀ (gs : List (Int × Int)), (∀ g ∈ gs, 0 ≤ g.2) → Near (gs.foldl (fun rs g => El.place rs g.1 g.2) s) (gs.foldl (fun rs g => El.place rs g.1 g.2) b)
  | [], _ => h
  | g :: gs, hp => by
    rw [List.foldl_cons, List.foldl_cons]
    exact Near.fold (h.step g.1 g.2 (hp g List.mem_cons_self)) gs fun x hx => hp x (List.mem_cons_of_mem _ hx)
/-- the order with one more -/
theorem byAge_split {gs : List (Int × Int)} {x : Int × Int} (f : Fit (x :: gs)) : ∃ pre post, byAge (x :: gs) = pre ++ x :: post ∧ byAge gs = pre ++ post := by
  have hx : x ∈ byAge (x :: gs) := (byAge_perm _).mem_iff.mpr List.mem_cons_self
  obtain ⟨pre, post, e⟩ := List.append_of_mem hx
  refine ⟨pre, post, e, ?_⟩
  have fg : Fit gs := ⟨(List.nodup_cons.mp f.nd).2, fun g hg => f.pos g (List.mem_cons_of_mem _ hg)⟩
  refine (byAge_of fg ?_ ?_).symm
  · have p : (pre ++ x :: post).Perm (x :: gs) := e ▸ byAge_perm (x :: gs)
    exact List.Perm.cons_inv (List.perm_middle.symm.trans p)
  · have s := byAge_sorted (x :: gs)
    rw [e] at s
    rw [List.pairwise_append] at s ⊢
    obtain ⟨s1, s2, s3⟩ := s
    exact ⟨s1, (List.pairwise_cons.mp s2).2, fun a ha b hb => s3 a ha b (List.mem_cons_of_mem _ hb)⟩
theorem settle_near {gs : List (Int × Int)} {x : Int × Int} (f : Fit (x :: gs)) : Near (settle gs) (settle (x :: gs)) := by
  obtain ⟨pre, post, e1, e2⟩ := byAge_split f
  unfold settle settleL
  rw [e1, e2, List.foldl_append, List.foldl_append, List.foldl_cons]
  exact (Near.place _ x.1 x.2).fold post fun g hg => f.pos g ((byAge_perm _).mem_iff.mp (by rw [e1]; exact List.mem_append_right _ (List.mem_cons_of_mem _ hg)))
/-- sizes: one room one fuller -/
def bump (L : List Int) (d : Nat) : List Int := if d < L.length then L.set d (L.getD d 0 + 1) else L ++ [1]
theorem bump_cons (x : Int) (L : List Int) (d : Nat) : bump (x :: L) (d + 1) = x :: bump L d := by
  unfold bump
  by_cases h : d < L.length
  · rw [if_pos h, if_pos (by rw [List.length_cons]; omega)]
    rfl
  · rw [if_neg h, if_neg (by rw [List.length_cons]; omega)]
    rfl
theorem Near.sizes {s b : List (List Int)} (h : Near s b) : ∃ d, d ≤ s.length ∧ b.map (fun r => (r.length : Int)) = bump (s.map fun r => (r.length : Int)) d := by
  induction h with
  | new m => exact ⟨0, Nat.le_refl _, rfl⟩
  | @here s b hb rest =>
    refine ⟨0, Nat.zero_le _, ?_⟩
    have hl := hb.len
    show ((b.length : Int) :: rest.map fun r => (r.length : Int)) = ((s.length : Int) + 1) :: rest.map fun r => (r.length : Int)
    rw [hl]
    rfl
  | @skip s b ss bs hs r ih =>
    obtain ⟨d, hd, e⟩ := ih
    refine ⟨d + 1, by rw [List.length_cons]; omega, ?_⟩
    rw [List.map_cons, List.map_cons, bump_cons, e, hs.len]
theorem bump_length (L : List Int) {d : Nat} : (bump L d).length = if d < L.length then L.length else L.length + 1 := by
  unfold bump
  split
  · rw [List.length_set]
  · rw [List.length_append]
    rfl
theorem bump_at (L : List Int) {d k : Nat} (hd : d ≤ L.length) (hk : k < (bump L d).length) : (bump L d)[k]? = some (L.getD k 0 + if k = d then 1 else 0) := by
  rw [bump_length] at hk
  unfold bump
  by_cases h : d < L.length
  · rw [if_pos h] at hk ⊢
    by_cases e : k = d
    · subst e
      rw [List.getElem?_set_self hk, if_pos rfl]
    · rw [List.getElem?_set_ne (fun z => e z.symm), if_neg e, Int.add_zero, List.getElem?_eq_getElem hk, List.getD_eq_getElem?_getD, List.getElem?_eq_getElem hk]
      rfl
  · rw [if_neg h] at hk ⊢
    have hd' : d = L.length := by omega
    subst hd'
    by_cases e : k = L.length
    · subst e
      rw [List.getElem?_append_right (Nat.le_refl _), Nat.sub_self, if_pos rfl, List.getD_eq_getElem?_getD, List.getElem?_eq_none (Nat.le_refl _)]
      rfl
    · have hk' : k < L.length := by omega
      rw [List.getElem?_append_left hk', if_neg e, Int.add_zero, List.getElem?_eq_getElem hk', List.getD_eq_getElem?_getD, List.getElem?_eq_getElem hk']
      rfl
end El
namespace El
/-! ### in peace, by counting -/
theorem upIn_iff {pf : Int → Int} : ∀ {l : List Int} {k : Nat}, upIn pf l k = none ↔ ∀ (i : Nat) (a : Int), l[i]? = some a → ((i + k : Nat) : Int) ≤ pf a
  | [], _ => ⟨fun _ i a e => by simp at e, fun _ => rfl⟩
  | x :: l, k => by
    constructor
    · intro h
      unfold upIn at h
      by_cases q : pf x < (k : Int)
      · rw [if_pos q] at h
        cases h
      · rw [if_neg q] at h
        intro i a e
        cases i with
        | zero =>
          obtain rfl : x = a := Option.some.inj e
          omega
        | succ i =>
          have := (upIn_iff.mp h) i a (by simpa using e)
          omega
    · exact upIn_none
theorem upsetOf_iff {gs : List (Int × Int)} : ∀ {rs : List (List Int)} {k : Nat}, upsetOf gs rs k = none ↔ ∀ r ∈ rs, eldUp gs r = none
  | [], _ => ⟨fun _ r m => absurd m List.not_mem_nil, fun _ => rfl⟩
  | r :: rs, k => by
    constructor
    · intro h
      unfold upsetOf at h
      cases e : eldUp gs r with
      | some a => rw [e] at h; cases h
      | none =>
        rw [e] at h
        intro s m
        rcases List.mem_cons.mp m with rfl | m
        · exact e
        · exact (upsetOf_iff.mp h) s m
    · exact upsetOf_none
theorem above_ix : ∀ {l : List Int} {i : Nat} {a : Int}, l.Pairwise (· > ·) → l[i]? = some a → (l.filter fun b => decide (a < b)).length = i
  | [], i, a, _, e => by simp at e
  | x :: l, 0, a, h, e => by
    obtain rfl : x = a := Option.some.inj e
    obtain ⟨h1, _⟩ := List.pairwise_cons.mp h
    rw [List.filter_cons_of_neg (by simp), List.filter_eq_nil_iff.mpr fun b hb => by
      have := h1 b hb
      simp only [decide_eq_true_eq]
      omega]
    rfl
  | x :: l, i + 1, a, h, e => by
    obtain ⟨h1, h2⟩ := List.pairwise_cons.mp h
    have e' : l[i]? = some a := by simpa using e
    have := h1 a (List.mem_of_getElem? e')
    rw [List.filter_cons_of_pos (by simp only [decide_eq_true_eq]; omega), List.length_cons, above_ix h2 e']
def above (r : List Int) (a : Int) : List Int := r.filter fun b => decide (a < b)
theorem down_strict {r : List Int} (nd : r.Nodup) : (down r).Pairwise (· > ·) := by
  have h1 := down_sorted r
  have h2 : (down r).Nodup := ((down_perm r).nodup_iff).mpr nd
  have h3 := h1.and h2
  exact h3.imp fun {a b} h => by
    have := h.1
    have := h.2
    omega
theorem eldUp_iff {gs : List (Int × Int)} {r : List Int} (nd : r.Nodup) : eldUp gs r = none ↔ ∀ a ∈ r, ((above r a).length : Int) ≤ pof gs a := by
  have hl : ∀ a, (above r a).length = ((down r).filter fun b => decide (a < b)).length := fun a => (((down_perm r).filter _).length_eq).symm
  unfold eldUp
  rw [upIn_iff]
  constructor
  · intro h a m
    obtain ⟨i, e⟩ := List.mem_iff_getElem?.mp ((down_perm r).mem_iff.mpr m)
    have := h i a e
    rw [hl, above_ix (down_strict nd) e]
    omega
  · intro h i a e
    have := h a ((down_perm r).mem_iff.mp (List.mem_of_getElem? e))
    rw [hl, above_ix (down_strict nd) e] at this
    omega
theorem flat_nd {rs : List (List Int)} (nd : rs.flatten.Nodup) {r : List Int} (m : r ∈ rs) : r.Nodup := (List.pairwise_flatten.mp nd).1 r m
def full (rs : List (List Int)) : List (List Int) := rs.filter fun r => !r.isEmpty
def lensD (rs : List (List Int)) : List Int := (full rs).map fun r => (r.length : Int)
/-- in peace and as good as can be -/
def bestB (gs : List (Int × Int)) (rs : List (List Int)) : Bool := decide (upsetOf gs rs 0 = none) && decide (down (lensD rs) = (settle gs).map fun r => (r.length : Int))
end El
namespace El
/-! ### none is fuller in its fullest rooms than the rule by age -/
/-- whatever rooms are taken out of O, as many first ones of G have as many at least -/
def Dom (G O : List Nat) : Prop := ∀ s : List Nat, s.Sublist O → s.sum ≤ (G.take s.length).sum
def bumpN (G : List Nat) (a : Nat) : List Nat := if a < G.length then G.set a (G.getD a 0 + 1) else G ++ [1]
theorem sum_split (f : Nat → Bool) : ∀ s : List Nat, s.sum = (s.filter f).sum + (s.filter fun x => !f x).sum
  | [] => rfl
  | x :: s => by
    have ih := sum_split f s
    rw [List.sum_cons]
    cases e : f x with
    | true => rw [List.filter_cons_of_pos e, List.filter_cons_of_neg (by simp [e]), List.sum_cons]; omega
    | false => rw [List.filter_cons_of_neg (by simp [e]), List.filter_cons_of_pos (by simp [e]), List.sum_cons]; omega
theorem len_split (f : Nat → Bool) : ∀ s : List Nat, s.length = (s.filter f).length + (s.filter fun x => !f x).length
  | [] => rfl
  | x :: s => by
    have ih := len_split f s
    rw [List.length_cons]
    cases e : f x with
    | true => rw [List.filter_cons_of_pos e, List.filter_cons_of_neg (by simp [e]), List.length_cons]; omega
    | false => rw [List.filter_cons_of_neg (by simp [e]), List.filter_cons_of_pos (by simp [e]), List.length_cons]; omega
theorem sum_low {q : Nat} : ∀ {l : List Nat}, (∀ x ∈ l, x ≤ q) → l.sum ≤ l.length * q
  | [], _ => by simp
  | x :: l, h => by
    have h1 := h x List.mem_cons_self
    have h2 := sum_low fun y m => h y (List.mem_cons_of_mem _ m)
    rw [List.sum_cons, List.length_cons, Nat.add_mul, Nat.one_mul]
    omega
theorem take_high {q : Nat} : ∀ {G : List Nat} {h n : Nat}, h + n ≤ G.length → (∀ i x, i < h + n → G[i]? = some x → q ≤ x) → (G.take h).sum + n * q ≤ (G.take (h + n)).sum
  | G, h, 0, _, _ => by simp
  | G, h, n + 1, hl, hx => by
    have ih := take_high (G := G) (h := h) (n := n) (by omega) fun i x hi e => hx i x (by omega) e
    have hlt : h + n < G.length := by omega
    have e : G[h + n]? = some G[h + n] := List.getElem?_eq_getElem hlt
    have hq := hx (h + n) _ (by omega) e
    rw [show h + (n + 1) = h + n + 1 by omega, List.take_add_one, e, List.sum_append, Nat.add_mul, Nat.one_mul]
    show _ ≤ _ + [G[h + n]].sum
    rw [List.sum_cons, List.sum_nil]
    omega
theorem take_bump_gt : ∀ {G : List Nat} {a k : Nat}, a ≤ G.length → a < k → ((bumpN G a).take k).sum = (G.take k).sum + 1
  | [], a, k, ha, hk => by
    have : a = 0 := Nat.le_zero.mp ha
    subst this
    cases k with
    | zero => omega
    | succ k => simp [bumpN]
  | x :: G, 0, k, _, hk => by
    cases k with
    | zero => omega
    | succ k =>
      simp [bumpN]
      omega
  | x :: G, a + 1, k, ha, hk => by
    cases k with
    | zero => omega
    | succ k =>
      have ih := take_bump_gt (G := G) (a := a) (k := k) (by simpa using ha) (by omega)
      have e : bumpN (x :: G) (a + 1) = x :: bumpN G a := by
        unfold bumpN
        by_cases h : a < G.length
        · rw [if_pos h, if_pos (by simpa using h)]
          rfl
        · rw [if_neg h, if_neg (by simpa using h)]
          rfl
      rw [e, List.take_succ_cons, List.take_succ_cons, List.sum_cons, List.sum_cons, ih]
      omega
theorem take_bump_le : ∀ {G : List Nat} {a k : Nat}, a ≤ G.length → k ≤ a → ((bumpN G a).take k) = G.take k := by
  intro G a k ha hk
  unfold bumpN
  split
  · rw [List.take_set_of_le hk]
  · rw [List.take_append_of_le_length (by omega)]
theorem take_bump {G : List Nat} {a k : Nat} (ha : a ≤ G.length) : (G.take k).sum ≤ ((bumpN G a).take k).sum := by
  by_cases h : k ≤ a
  · rw [take_bump_le ha h]
    exact Nat.le_refl _
  · rw [take_bump_gt ha (by omega)]
    omega
theorem Dom.skip {G O : List Nat} {a : Nat} (d : Dom G O) (ha : a ≤ G.length) : Dom (bumpN G a) O := fun s hs => Nat.le_trans (d s hs) (take_bump ha)
/-- one of them one fuller, or a new one -/
inductive Add1 (p : Nat) : List Nat → List Nat → Prop where
  | new : Add1 p [] [1]
  | here {v : Nat} {O : List Nat} : v ≤ p → Add1 p (v :: O) ((v + 1) :: O)
  | next {v : Nat} {O O' : List Nat} : Add1 p O O' → Add1 p (v :: O) (v :: O')
theorem Add1.high {p : Nat} {O O' : List Nat} (h : Add1 p O O') : O'.filter (fun x => decide (p + 1 < x)) = O.filter fun x => decide (p + 1 < x) := by
  induction h with
  | new => simp
  | @here v O hv =>
    rw [List.filter_cons_of_neg (by simp only [decide_eq_true_eq]; omega), List.filter_cons_of_neg (by simp only [decide_eq_true_eq]; omega)]
  | @next v O O' h ih =>
    rw [List.filter_cons, List.filter_cons, ih]
theorem Add1.back {p : Nat} {O O' : List Nat} (h : Add1 p O O') : ∀ {s : List Nat}, s.Sublist O' → ∃ t : List Nat, t.Sublist O ∧ t.length ≤ s.length ∧ s.sum ≤ t.sum + 1 := by
  induction h with
  | new =>
    intro s hs
    cases hs with
    | cons _ hs =>
      rw [List.sublist_nil.mp hs]
      exact ⟨[], List.Sublist.refl _, Nat.le_refl _, by simp⟩
    | @cons_cons s' _ _ hs =>
      rw [List.sublist_nil.mp hs]
      exact ⟨[], List.Sublist.refl _, by simp, by simp⟩
  | @here v O hv =>
    intro s hs
    cases hs with
    | cons _ hs => exact ⟨s, hs.cons _, Nat.le_refl _, by omega⟩
    | @cons_cons s' _ _ hs => exact ⟨v :: s', hs.cons_cons _, Nat.le_refl _, by rw [List.sum_cons, List.sum_cons]; omega⟩
  | @next v O O' h ih =>
    intro s hs
    cases hs with
    | cons _ hs =>
      obtain ⟨t, h1, h2, h3⟩ := ih hs
      exact ⟨t, h1.cons _, h2, h3⟩
    | @cons_cons s' _ _ hs =>
      obtain ⟨t, h1, h2, h3⟩ := ih hs
      refine ⟨v :: t, h1.cons_cons _, ?_, ?_⟩
      · rw [List.length_cons, List.length_cons]
        omega
      · rw [List.sum_cons, List.sum_cons]
        omega
theorem take_sum_le : ∀ {G : List Nat} {h k : Nat}, h ≤ k → (G.take h).sum ≤ (G.take k).sum
  | [], _, _, _ => by simp
  | x :: G, 0, k, _ => by simp
  | x :: G, h + 1, 0, e => absurd e (by omega)
  | x :: G, h + 1, k + 1, e => by
    have := take_sum_le (G := G) (h := h) (k := k) (by omega)
    rw [List.take_succ_cons, List.take_succ_cons, List.sum_cons, List.sum_cons]
    omega
theorem Dom.step {G O O' : List Nat} {p a : Nat} (d : Dom G O) (ha : a ≤ G.length) (hg : ∀ i x, i < a → G[i]? = some x → p < x) (hO : Add1 p O O') : Dom (bumpN G a) O' := by
  intro s hs
  by_cases hk : s.length ≤ a
  · rw [take_bump_le ha hk, sum_split (fun x => decide (p + 1 < x)) s]
    have h1 : (s.filter fun x => decide (p + 1 < x)).Sublist O := by
      refine (hs.filter _).trans ?_
      rw [hO.high]
      exact List.filter_sublist
    have h2 := d _ h1
    have h3 := sum_low (q := p + 1) (l := s.filter fun x => !decide (p + 1 < x)) fun x m => by
      have := (List.mem_filter.mp m).2
      simp only [Bool.not_eq_true', decide_eq_false_iff_not] at this
      omega
    have h4 := len_split (fun x => decide (p + 1 < x)) s
    have h5 := take_high (q := p + 1) (G := G) (h := (s.filter fun x => decide (p + 1 < x)).length) (n := (s.filter fun x => !decide (p + 1 < x)).length) (by omega) fun i x hi e => hg i x (by omega) e
    rw [← h4] at h5
    omega
  · obtain ⟨t, h1, h2, h3⟩ := hO.back hs
    have h4 := d t h1
    have h5 := take_sum_le (G := G) h2
    rw [take_bump_gt ha (by omega)]
    omega
theorem Dom.nil : Dom [] [] := fun s hs => by
  rw [List.sublist_nil.mp hs]
  simp
end El
namespace El
def lensN (rs : List (List Int)) : List Nat := rs.map List.length
theorem lensN_place : ∀ (rs : List (List Int)) (a p : Int), lensN (place rs a p) = bumpN (lensN rs) (firstB rs p)
  | [], a, p => rfl
  | r :: rs, a, p => by
    unfold place firstB
    by_cases h : (r.length : Int) ≤ p
    · rw [if_pos h, if_pos h]
      show (r ++ [a]).length :: lensN rs = bumpN (r.length :: lensN rs) 0
      rw [List.length_append]
      rfl
    · rw [if_neg h, if_neg h]
      show r.length :: lensN (place rs a p) = bumpN (r.length :: lensN rs) (firstB rs p + 1)
      rw [lensN_place rs a p]
      unfold bumpN
      by_cases q : firstB rs p < (lensN rs).length
      · rw [if_pos q, if_pos (by simpa using q)]
        rfl
      · rw [if_neg q, if_neg (by simpa using q)]
        rfl
theorem lensN_out {rs : List (List Int)} {p : Int} (hp : 0 ≤ p) {i x : Nat} (h : i < firstB rs p) (e : (lensN rs)[i]? = some x) : p.toNat < x := by
  unfold lensN at e
  rw [List.getElem?_map] at e
  cases q : rs[i]? with
  | none => rw [q] at e; cases e
  | some r =>
    rw [q] at e
    obtain rfl : r.length = x := Option.some.inj e
    have := firstB_out rs p i r h q
    omega
theorem dom_place {rs : List (List Int)} {O O' : List Nat} {a p : Int} (hp : 0 ≤ p) (d : Dom (lensN rs) O) (h : Add1 p.toNat O O') : Dom (lensN (place rs a p)) O' := by
  rw [lensN_place]
  exact d.step (by unfold lensN; rw [List.length_map]; exact firstB_le rs p) (fun i x hi e => lensN_out hp hi e) h
theorem dom_skip {rs : List (List Int)} {O : List Nat} {a p : Int} (d : Dom (lensN rs) O) : Dom (lensN (place rs a p)) O := by
  rw [lensN_place]
  exact d.skip (by unfold lensN; rw [List.length_map]; exact firstB_le rs p)
theorem add1_set {p : Nat} {a : Int} : ∀ {rs : List (List Int)} {k : Nat} {r : List Int}, rs[k]? = some r → r.length ≤ p → Add1 p (lensN rs) (lensN (rs.set k (r ++ [a])))
  | [], _, _, e, _ => by simp at e
  | s :: rs, 0, r, e, h => by
    obtain rfl : s = r := Option.some.inj e
    show Add1 p (s.length :: lensN rs) ((s ++ [a]).length :: lensN rs)
    rw [List.length_append]
    exact .here h
  | s :: rs, k + 1, r, e, h => .next (add1_set (by simpa using e) h)
theorem add1_new {p : Nat} {a : Int} : ∀ {rs : List (List Int)}, Add1 p (lensN rs) (lensN (rs ++ [[a]]))
  | [] => .new
  | _ :: _ => .next add1_new
theorem perm_sum : ∀ {s t : List Nat}, s.Perm t → s.sum = t.sum := by
  intro s t h
  induction h with
  | nil => rfl
  | cons x _ ih => rw [List.sum_cons, List.sum_cons, ih]
  | swap x y l => rw [List.sum_cons, List.sum_cons, List.sum_cons, List.sum_cons]; omega
  | trans _ _ ih1 ih2 => exact ih1.trans ih2
theorem Dom.perm {G O O' : List Nat} (d : Dom G O) (p : O'.Perm O) : Dom G O' := fun s hs => by
  obtain ⟨t, h1, h2⟩ := List.exists_perm_sublist hs p
  have h3 := d t h2
  have h4 := h1.length_eq
  have h5 := perm_sum h1
  rw [show s.length = t.length by omega]
  omega
/-- as many rooms, or more -/
theorem Dom.rooms {rs os : List (List Int)} (d : Dom (lensN rs) (lensN os)) (hr : ∀ r ∈ rs, r ≠ []) (h : rs.flatten.length ≤ os.flatten.length) : rs.length ≤ os.length := by
  have hs : ∀ l : List (List Int), (lensN l).sum = l.flatten.length := fun l => by
    induction l with
    | nil => rfl
    | cons x l ih =>
      show (x.length :: lensN l).sum = _
      rw [List.sum_cons, ih, List.flatten_cons, List.length_append]
  have h1 := d _ (List.Sublist.refl _)
  rw [hs, show (lensN os).length = os.length from List.length_map _] at h1
  refine Nat.le_of_not_lt fun hlt => ?_
  have h2 : (lensN rs).take os.length = lensN (rs.take os.length) := List.map_take.symm
  rw [h2, hs] at h1
  have h3 := congrArg (fun l => (List.flatten l).length) (List.take_append_drop os.length rs)
  rw [List.flatten_append, List.length_append] at h3
  have h4 : (rs.drop os.length).length ≤ (rs.drop os.length).flatten.length := len_le_flat _ fun r m => hr r (List.mem_of_mem_drop m)
  rw [List.length_drop] at h4
  omega
end El
namespace El
/-! ### any worth of sizes that grows ever faster -/
def over (t : Nat) (O : List Nat) : Nat := (O.map fun x => x - t).sum
theorem over_cons (t x : Nat) (O : List Nat) : over t (x :: O) = (x - t) + over t O := by
  unfold over
  rw [List.map_cons, List.sum_cons]
theorem over_high (t : Nat) : ∀ O : List Nat, over t O + (O.filter fun x => decide (t < x)).length * t = (O.filter fun x => decide (t < x)).sum
  | [] => by simp [over]
  | x :: O => by
    have ih := over_high t O
    rw [over_cons]
    by_cases h : t < x
    · rw [List.filter_cons_of_pos (by simpa using h), List.length_cons, List.sum_cons, Nat.add_mul, Nat.one_mul]
      omega
    · rw [List.filter_cons_of_neg (by simpa using h)]
      omega
theorem over_take (t : Nat) : ∀ (G : List Nat) (h : Nat), (G.take h).sum ≤ over t G + h * t
  | [], h => by simp
  | x :: G, 0 => by simp
  | x :: G, h + 1 => by
    have ih := over_take t G h
    rw [List.take_succ_cons, List.sum_cons, over_cons, Nat.add_mul, Nat.one_mul]
    omega
theorem Dom.over {G O : List Nat} (d : Dom G O) (t : Nat) : over t O ≤ over t G := by
  have h1 := over_high t O
  have h2 := d _ (List.filter_sublist (p := fun x => decide (t < x)) (l := O))
  have h3 := over_take t G (O.filter fun x => decide (t < x)).length
  omega
def sumR : Nat → (Nat → Int) → Int
  | 0, _ => 0
  | n + 1, f => sumR n f + f n
theorem sumR_add (f g : Nat → Int) : ∀ n, sumR n (fun t => f t + g t) = sumR n f + sumR n g
  | 0 => rfl
  | n + 1 => by
    have ih := sumR_add f g n
    show sumR n (fun t => f t + g t) + (f n + g n) = (sumR n f + f n) + (sumR n g + g n)
    omega
theorem sumR_le {f g : Nat → Int} (h : ∀ t, f t ≤ g t) : ∀ n, sumR n f ≤ sumR n g
  | 0 => Int.le_refl _
  | n + 1 => Int.add_le_add (sumR_le h n) (h n)
theorem sumR_congr {f g : Nat → Int} (h : ∀ t, f t = g t) (n : Nat) : sumR n f = sumR n g := by
  rw [show f = g from funext h]
/-- by how much faster -/
def bend (w : Nat → Int) (t : Nat) : Int := w (t + 2) - w (t + 1) - (w (t + 1) - w t)
def fromBends (w : Nat → Int) (n x : Nat) : Int := w 1 * (x : Int) + sumR n fun t => bend w t * ((x - (t + 1) : Nat) : Int)
theorem bends_high (w : Nat → Int) (h0 : w 0 = 0) : ∀ n y, fromBends w n (n + y) = w n + (y : Int) * (w (n + 1) - w n)
  | 0, y => by
    unfold fromBends
    show w 1 * ((0 + y : Nat) : Int) + 0 = _
    rw [h0, Int.add_zero, Nat.zero_add, Int.sub_zero, Int.mul_comm, Int.zero_add]
  | n + 1, y => by
    have ih := bends_high w h0 n (y + 1)
    have e : fromBends w (n + 1) (n + 1 + y) = fromBends w n (n + (y + 1)) + bend w n * (y : Int) := by
      unfold fromBends
      rw [show n + 1 + y = n + (y + 1) by omega]
      show _ + (sumR n _ + bend w n * ((n + (y + 1) - (n + 1) : Nat) : Int)) = _
      rw [show n + (y + 1) - (n + 1) = y by omega, Int.add_assoc]
    rw [e, ih]
    unfold bend
    rw [Int.sub_mul, Int.mul_comm (w (n + 2) - w (n + 1)), Int.mul_comm (w (n + 1) - w n), show ((y + 1 : Nat) : Int) = (y : Int) + 1 by omega, Int.add_mul, Int.one_mul]
    generalize (y : Int) * (w (n + 1) - w n) = u
    generalize (y : Int) * (w (n + 2) - w (n + 1)) = v
    omega
theorem bends_is (w : Nat → Int) (h0 : w 0 = 0) : ∀ n x, x ≤ n + 1 → fromBends w n x = w x
  | 0, x, hx => by
    have := bends_high w h0 0 x
    rw [Nat.zero_add, h0, Int.zero_add, Int.sub_zero] at this
    rw [this]
    rcases Nat.le_one_iff_eq_zero_or_eq_one.mp hx with rfl | rfl
    · rw [h0]
      simp
    · simp
  | n + 1, x, hx => by
    by_cases h : x ≤ n + 1
    · rw [← bends_is w h0 n x h]
      unfold fromBends
      show _ + (sumR n _ + bend w n * ((x - (n + 1) : Nat) : Int)) = _
      rw [show x - (n + 1) = 0 by omega, Int.natCast_zero, Int.mul_zero, Int.add_zero]
    · have e : x = n + 1 + 1 := by omega
      subst e
      have := bends_high w h0 (n + 1) 1
      rw [this]
      show w (n + 1) + ((1 : Nat) : Int) * (w (n + 2) - w (n + 1)) = w (n + 2)
      rw [Int.natCast_one, Int.one_mul]
      omega
theorem worth_sum (w : Nat → Int) (h0 : w 0 = 0) (n : Nat) : ∀ O : List Nat, (∀ x ∈ O, x ≤ n + 1) → (O.map w).sum = w 1 * ((O.sum : Nat) : Int) + sumR n fun t => bend w t * ((over (t + 1) O : Nat) : Int)
  | [], _ => by
    have : ∀ m, sumR m (fun t => bend w t * ((over (t + 1) [] : Nat) : Int)) = 0 := fun m => by
      induction m with
      | zero => rfl
      | succ m ih =>
        show sumR m _ + bend w m * ((over (m + 1) [] : Nat) : Int) = 0
        rw [ih]
        show 0 + bend w m * ((0 : Nat) : Int) = 0
        simp
    rw [this]
    simp
  | x :: O, h => by
    have ih := worth_sum w h0 n O fun y m => h y (List.mem_cons_of_mem _ m)
    have hx := bends_is w h0 n x (h x List.mem_cons_self)
    rw [List.map_cons, List.sum_cons, ih, ← hx]
    unfold fromBends
    rw [sumR_congr (f := fun t => bend w t * ((over (t + 1) (x :: O) : Nat) : Int)) (g := fun t => bend w t * ((x - (t + 1) : Nat) : Int) + bend w t * ((over (t + 1) O : Nat) : Int)) (fun t => by
      rw [over_cons, ← Int.mul_add]
      rfl), sumR_add, List.sum_cons, show ((x + O.sum : Nat) : Int) = (x : Int) + ((O.sum : Nat) : Int) by omega, Int.mul_add]
    generalize w 1 * (x : Int) = a
    generalize w 1 * ((O.sum : Nat) : Int) = b
    omega
/-- of all with as many guests the rule by age has the greatest worth -/
theorem Dom.worth {G O : List Nat} (d : Dom G O) (hs : O.sum = G.sum) (w : Nat → Int) (h0 : w 0 = 0) (hw : ∀ t, 0 ≤ bend w t) : (O.map w).sum ≤ (G.map w).sum := by
  have hb : ∀ (L : List Nat) (x : Nat), x ∈ L → x ≤ L.sum := by
    intro L
    induction L with
    | nil => intro x m; exact absurd m List.not_mem_nil
    | cons y L ih =>
      intro x m
      rw [List.sum_cons]
      rcases List.mem_cons.mp m with rfl | m
      · omega
      · have := ih x m
        omega
  rw [worth_sum w h0 G.sum O (fun x m => by have := hb O x m; omega), worth_sum w h0 G.sum G (fun x m => by have := hb G x m; omega), hs]
  refine Int.add_le_add_left (sumR_le (fun t => ?_) _) _
  exact Int.mul_le_mul_of_nonneg_left (by have := d.over (t + 1); omega) (hw t)
end El
namespace El
theorem sumR_le_lt {f g : Nat → Int} : ∀ n, (∀ t, t < n → f t ≤ g t) → sumR n f ≤ sumR n g
  | 0, _ => Int.le_refl _
  | n + 1, h => Int.add_le_add (sumR_le_lt n fun t ht => h t (by omega)) (h n (Nat.lt_succ_self n))
theorem mem_sum_le : ∀ {L : List Nat} {x : Nat}, x ∈ L → x ≤ L.sum
  | y :: L, x, m => by
    rw [List.sum_cons]
    rcases List.mem_cons.mp m with rfl | m
    · omega
    · have := mem_sum_le m
      omega
/-- as Dom.worth, of worths that grow ever faster as far as there are guests -/
theorem Dom.worthTo {G O : List Nat} (d : Dom G O) (hs : O.sum = G.sum) (w : Nat → Int) (h0 : w 0 = 0) (hw : ∀ t, t < G.sum → 0 ≤ bend w t) : (O.map w).sum ≤ (G.map w).sum := by
  rw [worth_sum w h0 G.sum O (fun x m => by have := mem_sum_le m; omega), worth_sum w h0 G.sum G (fun x m => by have := mem_sum_le m; omega), hs]
  refine Int.add_le_add_left (sumR_le_lt _ fun t ht => ?_) _
  exact Int.mul_le_mul_of_nonneg_left (by have := d.over (t + 1); omega) (hw t ht)
theorem lensN_sum : ∀ l : List (List Int), (lensN l).sum = l.flatten.length
  | [] => rfl
  | x :: l => by
    show (x.length :: lensN l).sum = _
    rw [List.sum_cons, lensN_sum l, List.flatten_cons, List.length_append]
theorem perm_sumI : ∀ {s t : List Int}, s.Perm t → s.sum = t.sum := by
  intro s t h
  induction h with
  | nil => rfl
  | cons x _ ih => rw [List.sum_cons, List.sum_cons, ih]
  | swap x y l => rw [List.sum_cons, List.sum_cons, List.sum_cons, List.sum_cons]; omega
  | trans _ _ ih1 ih2 => exact ih1.trans ih2
theorem lens_map (f : Int → Int) (rs : List (List Int)) : ((rs.map fun r => (r.length : Int)).map f).sum = ((lensN rs).map fun n : Nat => f n).sum := by
  unfold lensN
  rw [List.map_map, List.map_map]
  rfl
/-- worths of the sizes of an arrangement, and of the rooms by age -/
theorem worth_le {rs os : List (List Int)} (d : Dom (lensN rs) (lensN os)) (hs : os.flatten.length = rs.flatten.length) (f : Int → Int) (h0 : f 0 = 0) (hw : ∀ t, t < rs.flatten.length → 0 ≤ bend (fun n : Nat => f n) t) :
    ((down (os.map fun r => (r.length : Int))).map f).sum ≤ ((rs.map fun r => (r.length : Int)).map f).sum := by
  rw [perm_sumI ((down_perm _).map f), lens_map, lens_map]
  exact d.worthTo (by rw [lensN_sum, lensN_sum, hs]) _ h0 fun t ht => hw t (by rw [← lensN_sum]; exact ht)
theorem cast_sum : ∀ l : List Nat, (l.map fun n : Nat => (n : Int)).sum = ((l.sum : Nat) : Int)
  | [] => rfl
  | x :: l => by
    rw [List.map_cons, List.sum_cons, List.sum_cons, cast_sum l]
    omega
theorem down_nat (os : List (List Int)) : ∃ On : List Nat, down (os.map fun r => (r.length : Int)) = On.map (fun n : Nat => (n : Int)) ∧ On.Perm (lensN os) := by
  refine ⟨(down (os.map fun r => (r.length : Int))).map Int.toNat, ?_, ?_⟩
  · rw [List.map_map]
    have h : ∀ x ∈ down (os.map fun r => (r.length : Int)), ((fun n : Nat => (n : Int)) ∘ Int.toNat) x = (fun x => x) x := fun x m => by
      obtain ⟨r, _, rfl⟩ := List.mem_map.mp ((down_perm _).mem_iff.mp m)
      rfl
    rw [List.map_congr_left h, List.map_id']
  · refine ((down_perm _).map Int.toNat).trans ?_
    rw [List.map_map]
    exact List.Perm.refl _
theorem first_le {rs os : List (List Int)} (d : Dom (lensN rs) (lensN os)) (j : Nat) : ((down (os.map fun r => (r.length : Int))).take j).sum ≤ ((rs.map fun r => (r.length : Int)).take j).sum := by
  obtain ⟨On, hO, hp⟩ := down_nat os
  have hG : (rs.map fun r => (r.length : Int)) = (lensN rs).map fun n : Nat => (n : Int) := by
    unfold lensN
    rw [List.map_map]
    rfl
  rw [hO, hG, ← List.map_take, ← List.map_take, cast_sum, cast_sum]
  have h1 := (d.perm hp) _ (List.take_sublist j On)
  have h2 := take_sum_le (G := lensN rs) (List.length_take_le j On)
  omega
/-- the sizes by age stand in order -/
theorem down_settle {gs : List (Int × Int)} (f : Fit gs) : down ((settle gs).map fun r => (r.length : Int)) = (settle gs).map fun r => (r.length : Int) := by
  refine (down_is (List.Perm.refl _) ?_).symm
  rw [List.pairwise_map]
  exact (settleL_falls (byAge gs) f.byAge.pos).imp fun h => by
    show (_ : Int) ≥ _
    omega
theorem bend_sq (t : Nat) (h : t < 6) : 0 ≤ bend (fun n : Nat => (n : Int) * n) t := by
  revert t
  decide
theorem bend_pairs (t : Nat) (h : t < 6) : 0 ≤ bend (fun n : Nat => (n : Int) * ((n : Int) - 1) / 2) t := by
  revert t
  decide
end El
namespace El
/-- those whose digits are 1 -/
def sel {α : Type} : List α → Nat → List α
  | [], _ => []
  | g :: gs, m => (if m % 2 = 1 then [g] else []) ++ sel gs (m / 2)
theorem sel_snoc {α : Type} (g : α) : ∀ (l : List α) (m : Nat), sel (l ++ [g]) m = sel l m ++ if m / 2 ^ l.length % 2 = 1 then [g] else []
  | [], m => by
    show (if m % 2 = 1 then [g] else []) ++ [] = [] ++ _
    rw [List.append_nil, List.nil_append, List.length_nil, Nat.pow_zero, Nat.div_one]
  | x :: l, m => by
    show (if m % 2 = 1 then [x] else []) ++ sel (l ++ [g]) (m / 2) = ((if m % 2 = 1 then [x] else []) ++ sel l (m / 2)) ++ _
    rw [sel_snoc g l (m / 2), List.append_assoc, List.length_cons, Nat.pow_succ, Nat.mul_comm, Nat.div_div_eq_div_mul]
theorem sel_sub {α : Type} : ∀ (l : List α) (m : Nat), (sel l m).Sublist l
  | [], _ => List.Sublist.slnil
  | g :: gs, m => by
    show ((if m % 2 = 1 then [g] else []) ++ sel gs (m / 2)).Sublist (g :: gs)
    split
    · exact (sel_sub gs _).cons₂ g
    · exact (sel_sub gs _).cons g
theorem sel_all {α : Type} (f : α → Bool) : ∀ l : List α, ∃ m, m < 2 ^ l.length ∧ sel l m = l.filter f
  | [] => ⟨0, Nat.one_pos, rfl⟩
  | g :: gs => by
    obtain ⟨m, h1, h2⟩ := sel_all f gs
    cases e : f g with
    | true =>
      refine ⟨2 * m + 1, by rw [List.length_cons, Nat.pow_succ]; omega, ?_⟩
      show (if (2 * m + 1) % 2 = 1 then [g] else []) ++ sel gs ((2 * m + 1) / 2) = _
      rw [if_pos (by omega), show (2 * m + 1) / 2 = m by omega, h2, List.filter_cons_of_pos e]
      rfl
    | false =>
      refine ⟨2 * m, by rw [List.length_cons, Nat.pow_succ]; omega, ?_⟩
      show (if (2 * m) % 2 = 1 then [g] else []) ++ sel gs ((2 * m) / 2) = _
      rw [if_neg (by omega), show 2 * m / 2 = m by omega, h2, List.filter_cons_of_neg (by rw [e]; exact Bool.false_ne_true)]
      rfl
theorem sub_filter : ∀ {s l : List (Int × Int)}, s.Sublist l → (l.map (·.1)).Nodup → s = l.filter fun g => decide (g ∈ s)
  | _, _, .slnil, _ => rfl
  | s, _, .cons (l₂ := l) g h, nd => by
    have nd' : (g.1 :: l.map (·.1)).Nodup := nd
    obtain ⟨n1, n2⟩ := List.nodup_cons.mp nd'
    have hg : g ∉ s := fun m => n1 (List.mem_map.mpr ⟨g, h.subset m, rfl⟩)
    rw [List.filter_cons_of_neg (by simpa using hg)]
    exact sub_filter h n2
  | _, _, .cons₂ (l₁ := s) (l₂ := l) g h, nd => by
    have nd' : (g.1 :: l.map (·.1)).Nodup := nd
    obtain ⟨n1, n2⟩ := List.nodup_cons.mp nd'
    have ih := sub_filter h n2
    rw [List.filter_cons_of_pos (by simp)]
    congr 1
    have e : l.filter (fun x => decide (x ∈ g :: s)) = l.filter fun x => decide (x ∈ s) := by
      refine List.filter_congr fun x hx => ?_
      have hxg : x ≠ g := fun z => n1 (List.mem_map.mpr ⟨x, hx, by rw [z]⟩)
      by_cases hs : x ∈ s
      · rw [decide_eq_true hs, decide_eq_true (List.mem_cons_of_mem _ hs)]
      · rw [decide_eq_false hs, decide_eq_false fun m => (List.mem_cons.mp m).elim hxg hs]
    rw [e]
    exact ih
theorem add1_place (os : List (List Int)) (a p : Int) (hp : 0 ≤ p) : Add1 p.toNat (lensN os) (lensN (place os a p)) := by
  by_cases h : firstB os p = os.length
  · rw [place_new os a p h]
    exact add1_new
  · obtain ⟨r, er, hr⟩ := firstB_in os p (by have := firstB_le os p; omega)
    rw [place_at os a p r er]
    exact add1_set er (by omega)
/-- some of them, by age: no fuller -/
theorem fold_dom (f : Int × Int → Bool) : ∀ (L : List (Int × Int)) (rs os : List (List Int)), (∀ g ∈ L, 0 ≤ g.2) → Dom (lensN rs) (lensN os) →
    Dom (lensN (L.foldl (fun rs g => place rs g.1 g.2) rs)) (lensN ((L.filter f).foldl (fun rs g => place rs g.1 g.2) os))
  | [], _, _, _, d => d
  | g :: L, rs, os, hp, d => by
    have h0 := hp g List.mem_cons_self
    have hp' : ∀ x ∈ L, 0 ≤ x.2 := fun x m => hp x (List.mem_cons_of_mem _ m)
    by_cases e : f g = true
    · rw [List.filter_cons_of_pos e]
      exact fold_dom f L _ _ hp' (dom_place h0 d (add1_place os g.1 g.2 h0))
    · rw [List.filter_cons_of_neg e]
      exact fold_dom f L _ _ hp' (dom_skip d)
theorem settle_sub {gs s : List (Int × Int)} (F : Fit gs) (h : s.Sublist gs) : Dom (lensN (settle gs)) (lensN (settle s)) := by
  have e := sub_filter h F.nd
  have e2 : settle s = settleL ((byAge gs).filter fun g => decide (g ∈ s)) := by
    show settleL (byAge s) = _
    rw [← byAge_filter F, ← e]
  rw [e2]
  exact fold_dom _ (byAge gs) [] [] F.byAge.pos Dom.nil
theorem Fit.sub {gs s : List (Int × Int)} (F : Fit gs) (h : s.Sublist gs) : Fit s := ⟨(h.map _).nodup F.nd, fun g m => F.pos g (h.subset m)⟩
theorem lens_castN (rs : List (List Int)) : (rs.map fun r => (r.length : Int)) = (lensN rs).map fun n : Nat => (n : Int) := by
  unfold lensN
  rw [List.map_map]
  rfl
/-- no more of them than live in the first j can live in j -/
theorem few_le {gs s : List (Int × Int)} (F : Fit gs) (h : s.Sublist gs) {j : Nat} (hj : (settle s).length ≤ j) : (s.length : Int) ≤ (((settle gs).map fun r => (r.length : Int)).take j).sum := by
  have d := settle_sub F h (lensN (settle s)) (List.Sublist.refl _)
  rw [lensN_sum, (settle_flat s).length_eq, List.length_map] at d
  have h2 : ((lensN (settle gs)).take (lensN (settle s)).length).sum ≤ ((lensN (settle gs)).take j).sum := take_sum_le (by unfold lensN; rw [List.length_map]; exact hj)
  rw [lens_castN, ← List.map_take, cast_sum]
  omega
theorem left_len {gs : List (Int × Int)} (F : Fit gs) {S : List Int} {j : Nat} (h : ∀ a, a ∈ S ↔ a ∈ ((settle gs).drop j).flatten) :
    ((gs.filter fun g => !decide (g.1 ∈ S)).length : Int) = (((settle gs).map fun r => (r.length : Int)).take j).sum := by
  have e := settle_left F h
  have e2 := (settle_flat (gs.filter fun g => !decide (g.1 ∈ S))).length_eq
  rw [e, List.length_map, ← lensN_sum] at e2
  rw [lens_castN, ← List.map_take, cast_sum, ← e2]
  unfold lensN
  rw [List.map_take]
theorem settle_rooms_ne (gs : List (Int × Int)) : ∀ r ∈ settle gs, r ≠ [] := settleL_ne _
end El
namespace El
/-! ### guests placed in peace, one after another, the eldest first -/
structure Put (L : List (Int × Int)) (rs : List (List Int)) : Prop where
  dom : Dom (lensN (settleL L)) (lensN rs)
  all : rs.flatten.Perm (L.map (·.1))
  calm : ∀ r ∈ rs, Fine L r
theorem Fine.nil {L : List (Int × Int)} : Fine L [] := ⟨List.Pairwise.nil, fun i a e => by simp at e⟩
theorem Fine.snoc {L : List (Int × Int)} {r : List Int} {g : Int × Int} (h : Fine L r) (hle : ∀ x ∈ L, g.1 ≤ x.1) (hb : (r.length : Int) ≤ g.2) : Fine (L ++ [g]) (r ++ [g.1]) := by
  refine ⟨?_, fun j a e => ?_⟩
  · rw [List.pairwise_append]
    refine ⟨h.1, List.pairwise_singleton _ _, fun x hx y hy => ?_⟩
    rw [List.mem_singleton.mp hy]
    obtain ⟨z, hz, rfl⟩ := h.mem hx
    exact hle z hz
  · by_cases hj : j < r.length
    · rw [List.getElem?_append_left hj] at e
      obtain ⟨z, h1, h2⟩ := h.2 j a e
      exact ⟨z, List.mem_append_left _ h1, h2⟩
    · rw [List.getElem?_append_right (by omega)] at e
      have hj0 : j - r.length = 0 := by
        have := (List.getElem?_eq_some_iff.mp e).1
        rw [List.length_singleton] at this
        omega
      rw [hj0] at e
      obtain rfl : g.1 = a := Option.some.inj e
      exact ⟨g, List.mem_append_right _ (List.mem_singleton.mpr rfl), rfl, by omega⟩
theorem Put.nil (n : Nat) : Put [] (List.replicate n []) := by
  refine ⟨fun s hs => ?_, ?_, fun r m => ?_⟩
  · have hz : ∀ x ∈ s, x ≤ 0 := fun x m => by
      have := hs.subset m
      unfold lensN at this
      obtain ⟨r, mr, rfl⟩ := List.mem_map.mp this
      rw [(List.mem_replicate.mp mr).2]
      exact Nat.le_refl _
    have := sum_low hz
    omega
  · have : (List.replicate n ([] : List Int)).flatten = [] := by
      rw [List.flatten_eq_nil_iff]
      exact fun l m => (List.mem_replicate.mp m).2
    rw [this]
    exact .refl _
  · rw [(List.mem_replicate.mp m).2]
    exact .nil
theorem set_flat : ∀ {rs : List (List Int)} {i : Nat} {r : List Int} (a : Int), rs[i]? = some r → (rs.set i (r ++ [a])).flatten.Perm (a :: rs.flatten)
  | [], _, _, _, e => by simp at e
  | s :: rs, 0, r, a, e => by
    obtain rfl : s = r := Option.some.inj e
    show ((s ++ [a]) :: rs).flatten.Perm _
    rw [List.flatten_cons, List.flatten_cons, List.append_assoc]
    exact List.perm_middle
  | s :: rs, i + 1, r, a, e => by
    show (s :: rs.set i (r ++ [a])).flatten.Perm _
    rw [List.flatten_cons, List.flatten_cons]
    exact ((set_flat a (by simpa using e)).append_left s).trans List.perm_middle
theorem Put.set {L : List (Int × Int)} {rs : List (List Int)} {g : Int × Int} {k : Nat} {r : List Int} (h : Put L rs) (hle : ∀ x ∈ L, g.1 ≤ x.1) (hp : 0 ≤ g.2) (e : rs[k]? = some r) (hb : (r.length : Int) ≤ g.2) : Put (L ++ [g]) (rs.set k (r ++ [g.1])) := by
  refine ⟨?_, ?_, fun q m => ?_⟩
  · rw [settleL_snoc]
    exact dom_place hp h.dom (add1_set e (by omega))
  · rw [List.map_append]
    exact (set_flat g.1 e).trans ((List.Perm.cons g.1 h.all).trans (List.perm_append_singleton g.1 _).symm)
  · rcases List.mem_or_eq_of_mem_set m with m | rfl
    · exact (h.calm q m).more fun x hx => List.mem_append_left _ hx
    · exact (h.calm r (List.mem_of_getElem? e)).snoc hle hb
theorem Put.new {L : List (Int × Int)} {rs : List (List Int)} {g : Int × Int} (h : Put L rs) (hle : ∀ x ∈ L, g.1 ≤ x.1) (hp : 0 ≤ g.2) : Put (L ++ [g]) (rs ++ [[g.1]]) := by
  refine ⟨?_, ?_, fun q m => ?_⟩
  · rw [settleL_snoc]
    exact dom_place hp h.dom add1_new
  · rw [List.map_append, List.flatten_append]
    exact h.all.append (.refl _)
  · rcases List.mem_append.mp m with m | m
    · exact (h.calm q m).more fun x hx => List.mem_append_left _ hx
    · rw [List.mem_singleton.mp m]
      exact Fine.snoc (r := []) .nil hle hp
theorem fine_calm {gs : List (Int × Int)} (f : Fit gs) {r r' : List Int} (h : Fine gs r) (p : r'.Perm r) : eldUp gs r' = none := by
  obtain ⟨h1, h2⟩ := h
  unfold eldUp
  rw [← down_is p.symm h1]
  refine upIn_none fun i a e => ?_
  obtain ⟨g, hg, rfl, hl⟩ := h2 i a e
  rw [pof_is f.nd hg]
  exact hl
end El
namespace El
open PySem PySem.Spec PyProof.Rows L2
/-! ### a def of the text as callers see it -/
structure Df (P : Program) (w : World) (K : PySem.W.Frag) (mg : Str → Option Value) (base : Heap) (k : Nat) (x : Str) (ps : List Str) (st : Stmt) (sp : Sp) : Prop where
  ex : ∃ (f : Addr) (fd : FuncData), Fun K x x st f fd ∧ mg x = some (.ref f) ∧ FnOk P w K mg base CX0 k f fd ps sp ∧ Binds K fd ps []
/-- where a def stands -/
structure At (K : PySem.W.Frag) (mg : Str → Option Value) (x : Str) (ps : List Str) (st : Stmt) : Prop where
  ex : ∃ (f : Addr) (fd : FuncData), Fun K x x st f fd ∧ mg x = some (.ref f) ∧ Binds K fd ps []
theorem At.df {P : Program} {w : World} {K : PySem.W.Frag} {mg : Str → Option Value} {base : Heap} {k : Nat} {x : Str} {ps : List Str} {st : Stmt} {sp : Sp} (A : At K mg x ps st)
    (h : ∀ f fd, Fun K x x st f fd → FnOk P w K mg base CX0 k f fd ps sp) : Df P w K mg base k x ps st sp := by
  obtain ⟨f, fd, F, m, b⟩ := A.ex
  exact ⟨f, fd, F, m, h f fd F, b⟩
section
variable {X : Cx} {k : Nat} {x : Str} {ps : List Str} {st : Stmt} {sp : Sp} {p pos : Pos} {e : Expr} {es : List Expr} {kws : List Keyword} {t tk : TA}
theorem pe_df (D : Df X.prog X.w X.K X.mg X.base k x ps st sp) (hr : Room k X.A) (hg : Gl X x) (ha : PA X (e :: es) t) (hdb : (x == ("__debug__" : Str)) = false := by decide)
    (he : starEach (e :: es) X.env = (false, eval e X.env) :: starEach es X.env := by rfl) (hpl : (backTo pos (starEach es X.env)).any (·.1) = false := by rfl) : PE X (.Call (.Name x p) (e :: es) [] pos) (tCall sp [] E0 t) := by
  obtain ⟨f, fd, F, m, G, b⟩ := D.ex
  exact pe_call G hr hg m F.kp b .nil pass0 ha hdb he hpl
theorem pe_df0 (D : Df X.prog X.w X.K X.mg X.base k x ps st sp) (hr : Room k X.A) (hg : Gl X x) (hdb : (x == ("__debug__" : Str)) = false := by decide) : PE X (.Call (.Name x p) [] [] pos) (tCall sp [] E0 tNil) := by
  obtain ⟨f, fd, F, m, G, b⟩ := D.ex
  exact pe_call0 G hr hg m F.kp b .nil pass0 hdb
def tCallW (n : Nat) (sp : Sp) (g : List V → List V) (tk : TA) : TE := fun σ H Q => tk σ H fun zs H2 => zs.length = n ∧ sp (g zs) H2 Q E0
/-- f(k = v, ..): keywords alone -/
theorem pe_dfK (D : Df X.prog X.w X.K X.mg X.base k x ps st sp) (ks : List Str) (g : {α : Type} → List α → List α) (hr : Room k X.A) (hg : Gl X x) (hkw : PK X kws tk)
    (hb : ∀ (kV doc pm : Value) (an : Option Addr) (cdv ct : Value) (ws : List Value), ws.length = ks.length → bindArgs (PySem.W.fnOf x x (defArgs st) (defBody st) (defScope st) .none kV doc pm an cdv ct) ⟨[], ks.zip ws⟩ = pure (ps.zip (g ws)))
    (hrel : ∀ {zs : List V} {ws : List Value}, Vals zs ws → Vals (g zs) (g ws))
    (hall : (backToKw pos (keywordEach kws X.env)).all (·.1.isSome) = true := by rfl) (hks : (backToKw pos (keywordEach kws X.env)).filterMap (·.1) = ks := by rfl) (hdb : (x == ("__debug__" : Str)) = false := by decide)
    (hpl : ((backTo pos (starEach [] X.env)).any (·.1) || (backToKw pos (keywordEach kws X.env)).any (·.1.isNone)) = false := by rfl) :
    PE X (.Call (.Name x p) [] kws pos) (tCallW ks.length sp (fun zs => g zs) tk) := by
  obtain ⟨f, fd, F, m, G, b⟩ := D.ex
  have kp := F.kp
  have KB : KBn X.K fd ps 0 ks (fun us ws => us ++ g ws) (fun vs zs => vs ++ g zs) := by
    obtain ⟨oc, od, kV, doc, pm, an, cdv, ct, osl, rfl, lk, hcd⟩ := F.ex
    refine ⟨fun s us ws hK l1 l2 => ?_, fun {vs us zs ws} r rz => Vals.append r (hrel rz)⟩
    obtain rfl := List.eq_nil_of_length_eq_zero l1
    exact .of_eq (hb kV doc pm an cdv ct ws l2)
  refine ⟨fun pins s σ H Q I h => ?_⟩
  refine wpAny_Call_Name_kw (ld_glob I hg m ?_ hdb)
  refine PySem.W.callWith_KW0 (h₀ := X.base) I.ok.mod.kin kp hall ?_ hpl
  refine thn (hkw.run pos pins s σ H _ I h) fun ws s2 ⟨zs, H2, I2, rz, l2, q2⟩ => ⟨I2.kIn, ?_⟩
  rw [hks]
  exact run_fnN (us := []) (vs := []) G hr KB pass0 I2 .nil rz rfl l2 q2
end
theorem Df.at {P : Program} {w : World} {K : PySem.W.Frag} {mg : Str → Option Value} {base : Heap} {k : Nat} {x : Str} {ps : List Str} {st : Stmt} {sp : Sp} {fa : Addr} {fd : FuncData} {oc : Value} {od : Option Addr} {sl : Array (Option Value)}
    (D : Df P w K mg base k x ps st sp) (hf : mg x = some (.ref fa)) (l : K.lookup fa = some ⟨oc, od, .func fd, sl⟩) : FnOk P w K mg base CX0 k fa fd ps sp := by
  obtain ⟨f, fd', F, m, G, b⟩ := D.ex
  obtain rfl : fa = f := by
    have e := hf.symm.trans m
    injection e with e
    injection e
  obtain ⟨oc', od', kV, doc, pm, an, cdv, ct, osl, e1, lk, hcd⟩ := F.ex
  have e := l.symm.trans lk
  injection e with e
  injection e with _ _ e _
  injection e with e
  rw [e]
  exact G
theorem At.mk' {K : PySem.W.Frag} {mg : Str → Option Value} {h : Heap} {x : Str} {ps : List Str} {st : Stmt} {f : Addr} {oc : Value} {od an : Option Addr} {osl : Array (Option Value)} {kV doc pm cdv ct : Value} (X : K.In h) (G : h.Ns mainGlobals mg)
    (a : PySem.W.nsIn K mainGlobals x = some (some (.ref f))) (l : K.lookup f = some ⟨oc, od, .func (PySem.W.fnOf x x (defArgs st) (defBody st) (defScope st) .none kV doc pm an cdv ct), osl⟩)
    (c : PySem.W.codeIn K cdv x = true) (k : PySem.W.keepIn K (.ref f) = true)
    (b : ∀ (kV doc pm : Value) (an : Option Addr) (cdv ct : Value) (us : List Value), us.length = ps.length → bindArgs (PySem.W.fnOf x x (defArgs st) (defBody st) (defScope st) .none kV doc pm an cdv ct) ⟨us, []⟩ = pure (ps.zip us)) : At K mg x ps st :=
  have F := fun_mk (st := st) l c k
  ⟨f, _, F, PySem.W.mg_of X G a, F.binds b⟩
end El
namespace El
open PySem PySem.Spec PyProof.Rows L2
section
variable {X : Cx}
/-! sorted(..., reverse=b) of anything whose walk is known -/
/-- partners: each pair is something of ours and the value that stands for it -/
abbrev Partners (P : List (V × Value)) : Prop := ∀ p ∈ P, RelV p.1 p.2
theorem partners_of : ∀ {xs : List V} {us : List Value}, Vals xs us → ∃ P, Partners P ∧ P.map Prod.fst = xs ∧ P.map Prod.snd = us
  | _, _, .nil => ⟨[], fun _ m => (List.not_mem_nil m).elim, rfl, rfl⟩
  | _, _, .cons h t =>
    let ⟨P, hP, e1, e2⟩ := partners_of t
    ⟨(_, _) :: P, fun p m => (List.mem_cons.mp m).elim (fun e => e ▸ h) (hP p), congrArg _ e1, congrArg _ e2⟩
theorem Partners.vals : ∀ {P : List (V × Value)}, Partners P → Vals (P.map Prod.fst) (P.map Prod.snd)
  | [], _ => .nil
  | _ :: _, h => .cons (h _ (.head _)) (Partners.vals fun p m => h p (.tail _ m))
/-- the values in another order: the partners go along -/
theorem go_along {α β : Type} {f : α → β} {ys : List β} : ∀ {P : List α}, ys.Perm (P.map f) → ∃ P' : List α, P'.Perm P ∧ P'.map f = ys := by
  suffices key : ∀ {as bs : List β}, as.Perm bs → ∀ P : List α, P.map f = as → ∃ P' : List α, P'.Perm P ∧ P'.map f = bs from
    fun {P} h => key h.symm P rfl
  intro as bs h
  induction h with
  | nil => exact fun P e => ⟨P, .refl _, e⟩
  | cons x _ ih =>
    intro P e
    match P, e with
    | q :: P, e =>
      obtain ⟨P', hp, e'⟩ := ih P (List.cons.inj e).2
      exact ⟨q :: P', hp.cons q, by rw [List.map_cons, e', (List.cons.inj e).1]⟩
  | swap x y l =>
    intro P e
    match P, e with
    | q :: r :: P, e => exact ⟨r :: q :: P, .swap .., by
        have e1 := List.cons.inj e
        have e2 := List.cons.inj e1.2
        rw [List.map_cons, List.map_cons, e1.1, e2.1, e2.2]⟩
  | trans _ _ ih1 ih2 =>
    intro P e
    obtain ⟨P1, h1, e1⟩ := ih1 P e
    obtain ⟨P2, h2, e2⟩ := ih2 P1 e1
    exact ⟨P2, h2.trans h1, e2⟩
/-- forwards or backwards -/
abbrev turn {α : Type} (b : Bool) (l : List α) : List α := if b = true then l.reverse else l
theorem turn_map {α β : Type} (f : α → β) (l : List α) : ∀ b, (turn b l).map f = turn b (l.map f)
  | true => List.map_reverse ..
  | false => rfl
theorem turn_perm {α : Type} (l : List α) : ∀ b, (turn b l).Perm l
  | true => l.reverse_perm
  | false => .refl _
theorem turn_arr {α : Type} (l : List α) : ∀ b : Bool, (if b = true then l.toArray.reverse else l.toArray) = (turn b l).toArray
  | true => List.reverse_toArray ..
  | false => rfl
/-- the walk over v gathers what stands for xs, and nothing that lay there is touched -/
def Gathers (X : Cx) (s : Shared) (v : Value) (xs : List V) : Prop :=
  ∀ R : List Value → Shared → Prop, (∀ us h t, Vals xs us → (∀ b o, s.heap.get? b = some o → h.get? b = some o) → R us { s with heap := h, toks := t }) → wpAny (model X.prog X.w) X.A.in1 (collect v) R X.xe s
theorem sorted_gathered {pins : List (Addr × Obj)} {σ : L2.St} {H : Hp} {s : Shared} {Q : VK} {b : Bool} {v : Value} {xs : List V} {less : Value → Value → Bool}
    (I : Inv X pins σ H s) (few : xs.length ≤ sizeLine) (walk : Gathers X s v xs) (O : SrtO.Swo less)
    (able : ∀ (us : List Value) (s' : Shared) (l : Addr), 2 ≤ us.length → Vals xs us → Inv X pins σ (upd H l (.lst xs)) s' → H l = none → SrtO.SortableO X.prog X.w X.A.in1.in1 s' l us less)
    (q : ∀ (P : List (V × Value)) (l : Addr), Partners P → (P.map Prod.fst).Perm xs → SrtO.Srtd less (P.map Prod.snd) → H l = none → Q (.ref l) (upd H l (.lst (turn b (P.map Prod.fst))))) :
    wpAny (model X.prog X.w) X.A (call (.builtin "sorted") [v] [(Str.ofString "reverse", .bool b)]) (EP X pins σ Q) X.xe s := by
  refine call_function_entry_kw kind_sorted plain_sorted entry_sorted (args_sorted_rev v (.bool b)) ?_
  refine wpAny_bind (m := checkCount "sorted" 1 1 _) (wpAny_pure ?_)
  refine wpAny_bind (walk _ fun us h t for_xs grown => ?_)
  have n2 : us.length ≤ sizeLine := for_xs.length ▸ few
  refine wpAny_bind (wpAny_newList (wpAny_bind (wpAny_holding ?_)) n2)
  -- the new list lies there, and is ours
  generalize hl : ({ s with heap := h, toks := t } : Shared).heap.objs.size = l
  have hl' : h.objs.size = l := hl
  have at_l : (h.push (seqObj "list" us.toArray 0)).get? l = some (seqObj "list" us.toArray 0) := hl' ▸ Heap.get?_push_size _ rfl
  have free : H l = none := hl' ▸ (I.kept (t' := t) grown).hok.fresh (Nat.le_refl _)
  have J : Inv X pins σ (upd H l (.lst xs)) { s with heap := h.push (seqObj "list" us.toArray 0), toks := t } :=
    (I.kept (t' := t) grown).laid (t' := t) (fun _ _ => Heap.get?_push_of_some _) (Nat.le_of_eq hl) ⟨few, _, 0, for_xs, at_l⟩
  -- it is sorted where it lies
  refine PyProof.Rows.wpAny_call_entry_kw slot_list_sort ⟨_, at_l, rfl⟩ entry_list_sort ?_ (args_list_sort_rev _ (.bool b))
  refine SrtR.list_sort_ordR O at_l n2 (fun two => able us _ l two for_xs J free) fun out up same => ⟨_, rfl, wpAny_pure ⟨_, rfl, ?_⟩⟩
  obtain ⟨P0, hP0, rfl, rfl⟩ := partners_of for_xs
  obtain ⟨P, p1, rfl⟩ := go_along (same.perm.trans (turn_perm (P0.map Prod.snd) b))
  rw [turn_arr]
  obtain ⟨e, he⟩ := sortedHeap_at (out := (turn b (P.map Prod.snd)).toArray) at_l
  have hP : Partners P := fun p m => hP0 p (p1.mem_iff.mp m)
  have ends : Partners (turn b P) := fun p m => hP p ((turn_perm P b).mem_iff.mp m)
  have done := J.write (o := .lst (turn b (P.map Prod.fst))) (t' := t) (h' := sortedHeap (h.push (seqObj "list" (P0.map Prod.snd).toArray 0)) l (P0.map Prod.snd) (turn b (P.map Prod.snd)).toArray)
    (by rw [upd_same]; trivial) (.inl rfl) (fun c u away there => (sortedHeap_old away (Heap.lt_size there)).trans there) ⟨_, he⟩
    ⟨by rw [((turn_perm _ b).trans (p1.map _)).length_eq]; exact few, _, e, by rw [← turn_map, ← turn_map]; exact ends.vals, he⟩
  rw [upd_upd] at done
  exact ⟨.ref l, _, done, rfl, q P l hP (p1.map _) up free⟩
/-- the walk over a dict: its keys -/
theorem gathers_dict {pins : List (Addr × Obj)} {σ : L2.St} {H : Hp} {s : Shared} {a : Addr} {kvs : List (L2.Key × V)} (calm : X.calm = true) (I : Inv X pins σ H s) (d : Rd H a (.dK kvs)) :
    kvs.length ≤ sizeLine ∧ Gathers X s (.ref a) (kvs.map fun e => kV e.1) := by
  have ⟨few, own, es, same, lies⟩ := dk_rd I.hok d
  have ⟨ep, lies⟩ := lies.dictAt
  have keys : (kvs.map fun e => kV e.1) = es.map fun e => kV e.1 := by
    have h := congrArg (List.map kV) same.keys
    rw [List.map_map, List.map_map] at h
    exact h
  refine ⟨few, fun R go => ?_⟩
  rw [keys] at go
  exact PySem.W.kdu_collect (PySem.W.kdl_dict (knd := mixKind X.prog X.w) own) (I.ok.hd calm) lies (same.length ▸ few)
    fun h t got grown is => go _ h t (keys_at (by simpa using is.1) fun j v at_j => is.2 j v (by simpa using at_j)) grown
theorem ints_back {us : List Value} {ns : List Int} (h : IntsAre us ns) : us.map SrtO.iv = ns := by
  induction h with
  | nil => rfl
  | cons n t _ ih => exact congrArg (n :: ·) ih
/-- sorted(d, reverse=b) of a dict whose keys are ints -/
def rSortedRevD (b : Bool) : List V → List V → Hp → VK → Prop := fun vs zs H Q => ∃ (a : Addr) (kvs : List (L2.Key × V)) (ks : List Int), vs = [V.ref a] ∧ zs = [.bl b] ∧ Rd H a (.dK kvs) ∧ kvs.map (·.1) = ks.map Sum.inl ∧
  ∀ (ns' : List Int) (p : Addr), ns'.Perm ks → OrdB b ns' → H p = none → Q (.ref p) (upd H p (.lst (ns'.map V.int)))
theorem cr_sortedRevD {b : Bool} (calm : X.calm = true) : CallRK X (.builtin "sorted") [Str.ofString "reverse"] (rSortedRevD b) := by
  rintro pins s σ H _ _ us ws Q I one by_kw ⟨a, kvs, ks, rfl, rfl, d, hks, q⟩
  obtain ⟨v, w, rfl, rfl, rfl, rfl⟩ : ∃ v w, us = [v] ∧ ws = [w] ∧ v = .ref a ∧ w = .bool b := by
    cases one with | cons e1 t1 => cases t1; cases by_kw with | cons e2 t2 => cases t2; exact ⟨_, _, rfl, rfl, e1, e2⟩
  have keys : (kvs.map fun e => kV e.1) = ks.map V.int := by
    have h := congrArg (List.map kV) hks
    rw [List.map_map, List.map_map] at h
    exact h
  have ⟨few, walk⟩ := gathers_dict calm I d
  rw [keys] at walk
  refine sorted_gathered I (by rw [← keys, List.length_map]; exact few) walk SrtO.swo_int (fun us _ _ two r _ _ => SrtO.ints_sortable r.ints two) fun P l hP perm up free => ?_
  obtain ⟨ns, np, en⟩ := go_along perm
  have back := ints_back (Vals.ints (en ▸ hP.vals))
  rw [← en, ← turn_map]
  refine q _ l ((turn_perm ns b).trans np) ?_ free
  have rise : ns.Pairwise (· ≤ ·) := by
    rw [← back, List.pairwise_map]
    exact up.imp fun h => Int.not_lt.mp (of_decide_eq_false h)
  cases b with
  | false => exact rise
  | true => exact List.pairwise_reverse.mpr rise
end
end El
namespace El
open PySem PySem.Spec PyProof.Rows L2
/-! ### heaps -/
/-- what B names stays as it was -/
def Kp (B : Addr → Prop) (H H' : Hp) : Prop := ∀ b o, B b → H b = some o → H' b = some o
theorem Kp.refl {B : Addr → Prop} {H : Hp} : Kp B H H := fun _ _ _ e => e
theorem Kp.trans {B : Addr → Prop} {H H1 H2 : Hp} (h : Kp B H H1) (k : Kp B H1 H2) : Kp B H H2 := fun b o hb e => k b o hb (h b o hb e)
theorem Kp.of {B : Addr → Prop} {H H' : Hp} (h : Same H H') : Kp B H H' := fun b o _ e => h b o e
theorem Kp.same {H H' : Hp} (h : Kp (fun _ => True) H H') : Same H H' := fun b o e => h b o trivial e
theorem same_new {H : Hp} {p : Addr} {o : HO} (h : H p = none) : Same H (upd H p o) := fun b u e => by
  rw [upd_ne (ne_of_none e h)]
  exact e
theorem Same.mut {H H' : Hp} {p : Addr} {o : HO} (e : Same H H') (h : H p = none) : Same H (upd H' p o) := fun b u q => by
  rw [upd_ne (ne_of_none q h)]
  exact e b u q
theorem Kp.mut {B : Addr → Prop} {H H' : Hp} {p : Addr} {o : HO} (e : Kp B H H') (h : ¬ B p) : Kp B H (upd H' p o) := fun b u hb q => by
  have n : b ≠ p := fun z => h (z ▸ hb)
  rw [upd_ne n]
  exact e b u hb q
theorem Kp.new {B : Addr → Prop} {H H' : Hp} {p : Addr} {o : HO} (e : Kp B H H') (h : H' p = none) : Kp B H (upd H' p o) := e.trans (Kp.of (same_new h))
theorem Kp.mutF {B : Addr → Prop} {H H' : Hp} {p : Addr} {o : HO} (e : Kp B H H') (h : H p = none) : Kp B H (upd H' p o) := fun b u hb q => by
  rw [upd_ne (ne_of_none q h)]
  exact e b u hb q
theorem Kp.none {B : Addr → Prop} {H H' : Hp} (e : Kp B H H') {p : Addr} (hb : B p) (h : H' p = none) : H p = none := by
  cases z : H p with
  | none => rfl
  | some x =>
    have := e _ _ hb z
    rw [h] at this
    cases this
theorem no_of {H : Hp} {a p : Addr} {o : HO} (h : H a = some o) (hp : H p = none) : p ≠ a := fun z => by
  rw [z, h] at hp
  cases hp
theorem same_none {H H' : Hp} (e : Same H H') {p : Addr} (h : H' p = none) : H p = none := e.free h
theorem ils {n : Nat} (h : n ≤ 100000) : n < sizeLine := Nat.lt_of_le_of_lt h (by decide)
theorem ile {n : Nat} (h : n ≤ 100000) : n ≤ sizeLine := Nat.le_of_lt (ils h)
theorem ints_at {ns : List Int} {i : Nat} {x : V} (h : (ns.map V.int)[i]? = some x) : ∃ n, ns[i]? = some n ∧ x = .int n := by
  rw [List.getElem?_map] at h
  cases e : ns[i]? with
  | none => rw [e] at h; cases h
  | some n => rw [e] at h; exact ⟨n, rfl, (Option.some.inj h).symm⟩
theorem refs_at {ts : List Addr} {i : Nat} {x : V} (h : (ts.map V.ref)[i]? = some x) : ∃ t, ts[i]? = some t ∧ x = .ref t := by
  rw [List.getElem?_map] at h
  cases e : ts[i]? with
  | none => rw [e] at h; cases h
  | some t => rw [e] at h; exact ⟨t, rfl, (Option.some.inj h).symm⟩
theorem at_lt {α : Type} {l : List α} {i : Nat} {x : α} (h : l[i]? = some x) : i < l.length := (List.getElem?_eq_some_iff.mp h).1
theorem at_some {α : Type} {l : List α} {i : Nat} (h : i < l.length) : ∃ x, l[i]? = some x := ⟨l[i], List.getElem?_eq_getElem h⟩
theorem take_snoc {α : Type} {l : List α} {i : Nat} {x : α} (h : l[i]? = some x) : l.take (i + 1) = l.take i ++ [x] := by
  rw [List.take_add_one, h]
  rfl
theorem take_full {α : Type} (l : List α) : l.take l.length = l := List.take_length
/-! ### a list of pairs of ints -/
structure GsAt (H : Hp) (B : Addr → Prop) (a : Addr) (ts : List Addr) (gs : List (Int × Int)) : Prop where
  top : H a = some (.lst (ts.map V.ref))
  ba : B a
  len : ts.length = gs.length
  at' : ∀ (i : Nat) (t : Addr) (g : Int × Int), ts[i]? = some t → gs[i]? = some g → H t = some (.tup [.int g.1, .int g.2])
  b : ∀ t ∈ ts, B t
theorem GsAt.keep {H H' : Hp} {B : Addr → Prop} {a : Addr} {ts : List Addr} {gs : List (Int × Int)} (h : GsAt H B a ts gs) (k : Kp B H H') : GsAt H' B a ts gs :=
  ⟨k _ _ h.ba h.top, h.ba, h.len, fun i t g e f => k _ _ (h.b t (List.mem_of_getElem? e)) (h.at' i t g e f), h.b⟩
theorem GsAt.same {H H' : Hp} {B : Addr → Prop} {a : Addr} {ts : List Addr} {gs : List (Int × Int)} (h : GsAt H B a ts gs) (k : Same H H') : GsAt H' B a ts gs := h.keep (.of k)
theorem GsAt.weaken {H : Hp} {B B' : Addr → Prop} {a : Addr} {ts : List Addr} {gs : List (Int × Int)} (h : GsAt H B a ts gs) (k : ∀ b, B b → B' b) : GsAt H B' a ts gs :=
  ⟨h.top, k _ h.ba, h.len, h.at', fun t m => k _ (h.b t m)⟩
theorem GsAt.seq {K : PySem.W.Frag} {H : Hp} {B : Addr → Prop} {a : Addr} {ts : List Addr} {gs : List (Int × Int)} (h : GsAt H B a ts gs) : SqL K H a (ts.map V.ref) := SqL.of h.top
theorem GsAt.get {H : Hp} {B : Addr → Prop} {a : Addr} {ts : List Addr} {gs : List (Int × Int)} (h : GsAt H B a ts gs) {i : Nat} {x : V} (e : (ts.map V.ref)[i]? = some x) : ∃ t g, x = .ref t ∧ gs[i]? = some g ∧ H t = some (.tup [.int g.1, .int g.2]) := by
  obtain ⟨t, e1, rfl⟩ := refs_at e
  have hi := at_lt e1
  rw [h.len] at hi
  obtain ⟨g, e2⟩ := at_some hi
  exact ⟨t, g, rfl, e2, h.at' i t g e1 e2⟩
/-- pushed -/
theorem GsAt.push {H : Hp} {B : Addr → Prop} {a : Addr} {ts : List Addr} {gs : List (Int × Int)} (h : GsAt H B a ts gs) (hn : a ∉ ts) {q : Addr} {g : Int × Int} (e : H q = some (.tup [.int g.1, .int g.2])) (bq : B q) :
    GsAt (upd H a (.lst (ts.map V.ref ++ [.ref q]))) B a (ts ++ [q]) (gs ++ [g]) := by
  refine ⟨?_, h.ba, ?_, fun i t x e1 e2 => ?_, fun t m => ?_⟩
  · rw [upd_same, List.map_append]
    rfl
  · rw [List.length_append, List.length_append, h.len]
    rfl
  · have nq : q ≠ a := fun z => by
      rw [z, h.top] at e
      cases e
    by_cases hi : i < ts.length
    · rw [List.getElem?_append_left hi] at e1
      rw [List.getElem?_append_left (by rw [← h.len]; exact hi)] at e2
      have nt : t ≠ a := fun z => hn (z ▸ List.mem_of_getElem? e1)
      rw [upd_ne nt]
      exact h.at' i t x e1 e2
    · have hi' : i = ts.length := by
        have := at_lt e1
        rw [List.length_append, List.length_singleton] at this
        omega
      subst hi'
      rw [List.getElem?_append_right (Nat.le_refl _), Nat.sub_self] at e1
      rw [h.len, List.getElem?_append_right (Nat.le_refl _), Nat.sub_self] at e2
      have e1' : q = t := Option.some.inj e1
      have e2' : g = x := Option.some.inj e2
      subst e1' e2'
      rw [upd_ne nq]
      exact e
  · rcases List.mem_append.mp m with m | m
    · exact h.b t m
    · rw [List.mem_singleton.mp m]
      exact bq
theorem GsAt.there {H : Hp} {B : Addr → Prop} {a : Addr} {ts : List Addr} {gs : List (Int × Int)} (h : GsAt H B a ts gs) : ∀ b, (b = a ∨ b ∈ ts) → ∃ x, H b = some x := fun b m => by
  rcases m with rfl | m
  · exact ⟨_, h.top⟩
  · obtain ⟨i, e⟩ := List.mem_iff_getElem?.mp m
    have hl := at_lt e
    rw [h.len] at hl
    obtain ⟨g, eg⟩ := at_some hl
    exact ⟨_, h.at' i b g e eg⟩
theorem GsAt.reB {H : Hp} {B B' : Addr → Prop} {a : Addr} {ts : List Addr} {gs : List (Int × Int)} (h : GsAt H B a ts gs) (k : ∀ b, (b = a ∨ b ∈ ts) → B b → B' b) : GsAt H B' a ts gs :=
  ⟨h.top, k _ (.inl rfl) h.ba, h.len, h.at', fun t m => k _ (.inr m) (h.b t m)⟩
/-- what stands in H and is named by B -/
def Liv (H : Hp) (B : Addr → Prop) (b : Addr) : Prop := (∃ x, H b = some x) ∧ B b
theorem GsAt.liv {H : Hp} {B : Addr → Prop} {a : Addr} {ts : List Addr} {gs : List (Int × Int)} (h : GsAt H B a ts gs) : GsAt H (Liv H B) a ts gs := h.reB fun b m hb => ⟨h.there b m, hb⟩
theorem Liv.no {H : Hp} {B : Addr → Prop} {p : Addr} (h : H p = none) : ¬ Liv H B p := fun ⟨⟨x, e⟩, _⟩ => by
  rw [h] at e
  cases e
theorem Liv.of {H : Hp} {B : Addr → Prop} {p : Addr} {o : HO} (h : H p = some o) (b : B p) : Liv H B p := ⟨⟨o, h⟩, b⟩
theorem Kp.weak {B B' : Addr → Prop} {H H' : Hp} (k : Kp B H H') (h : ∀ b, B' b → B b) : Kp B' H H' := fun b o hb e => k b o (h b hb) e
theorem Kp.liv {B : Addr → Prop} {H0 H H' : Hp} (k : Kp B H H') : Kp (Liv H0 B) H H' := k.weak fun _ h => h.2
/-! ### a list of lists of ints, each its own -/
structure RmsAt (H : Hp) (B : Addr → Prop) (o : Addr) (ts : List Addr) (rs : List (List Int)) : Prop where
  top : H o = some (.lst (ts.map V.ref))
  bo : B o
  nd : ts.Nodup
  no : o ∉ ts
  len : ts.length = rs.length
  at' : ∀ (i : Nat) (t : Addr) (r : List Int), ts[i]? = some t → rs[i]? = some r → H t = some (.lst (r.map V.int))
  b : ∀ t ∈ ts, B t
theorem RmsAt.keep {H H' : Hp} {B : Addr → Prop} {a : Addr} {ts : List Addr} {rs : List (List Int)} (h : RmsAt H B a ts rs) (k : Kp B H H') : RmsAt H' B a ts rs :=
  ⟨k _ _ h.bo h.top, h.bo, h.nd, h.no, h.len, fun i t g e f => k _ _ (h.b t (List.mem_of_getElem? e)) (h.at' i t g e f), h.b⟩
theorem RmsAt.same {H H' : Hp} {B : Addr → Prop} {a : Addr} {ts : List Addr} {rs : List (List Int)} (h : RmsAt H B a ts rs) (k : Same H H') : RmsAt H' B a ts rs := h.keep (.of k)
theorem RmsAt.weaken {H : Hp} {B B' : Addr → Prop} {a : Addr} {ts : List Addr} {rs : List (List Int)} (h : RmsAt H B a ts rs) (k : ∀ b, B b → B' b) : RmsAt H B' a ts rs :=
  ⟨h.top, k _ h.bo, h.nd, h.no, h.len, h.at', fun t m => k _ (h.b t m)⟩
theorem RmsAt.seq {K : PySem.W.Frag} {H : Hp} {B : Addr → Prop} {a : Addr} {ts : List Addr} {rs : List (List Int)} (h : RmsAt H B a ts rs) : SqL K H a (ts.map V.ref) := SqL.of h.top
theorem RmsAt.get {H : Hp} {B : Addr → Prop} {a : Addr} {ts : List Addr} {rs : List (List Int)} (h : RmsAt H B a ts rs) {i : Nat} {x : V} (e : (ts.map V.ref)[i]? = some x) : ∃ t r, x = .ref t ∧ ts[i]? = some t ∧ rs[i]? = some r ∧ H t = some (.lst (r.map V.int)) := by
  obtain ⟨t, e1, rfl⟩ := refs_at e
  have hi := at_lt e1
  rw [h.len] at hi
  obtain ⟨g, e2⟩ := at_some hi
  exact ⟨t, g, rfl, e1, e2, h.at' i t g e1 e2⟩
theorem RmsAt.of {H : Hp} {B : Addr → Prop} {a : Addr} {ts : List Addr} {rs : List (List Int)} (h : RmsAt H B a ts rs) {i : Nat} {r : List Int} (e : rs[i]? = some r) : ∃ t, ts[i]? = some t ∧ H t = some (.lst (r.map V.int)) := by
  have hi := at_lt e
  rw [← h.len] at hi
  obtain ⟨t, e2⟩ := at_some hi
  exact ⟨t, e2, h.at' i t r e2 e⟩
theorem RmsAt.nil {H : Hp} {B : Addr → Prop} {o : Addr} (h : H o = some (.lst [])) (bo : B o) : RmsAt H B o [] [] :=
  ⟨h, bo, List.nodup_nil, by simp, rfl, fun i t r e _ => by simp at e, fun t m => by simp at m⟩
/-- a new empty list behind -/
theorem RmsAt.push {H : Hp} {B : Addr → Prop} {o : Addr} {ts : List Addr} {rs : List (List Int)} (h : RmsAt H B o ts rs) {q : Addr} {r : List Int} (hq : H q = none) (bq : B q) :
    RmsAt (upd (upd H q (.lst (r.map V.int))) o (.lst (ts.map V.ref ++ [.ref q]))) B o (ts ++ [q]) (rs ++ [r]) := by
  have nq : q ≠ o := no_of h.top hq
  have nqt : ∀ t ∈ ts, q ≠ t := fun t m => by
    obtain ⟨i, hi⟩ := List.mem_iff_getElem?.mp m
    have hl := at_lt hi
    rw [h.len] at hl
    obtain ⟨r', er⟩ := at_some hl
    exact no_of (h.at' i t r' hi er) hq
  refine ⟨?_, h.bo, ?_, ?_, ?_, fun i t x e1 e2 => ?_, fun t m => ?_⟩
  · rw [upd_same, List.map_append]
    rfl
  · rw [List.nodup_append]
    exact ⟨h.nd, by simp, fun a ha b hb => by
      rw [List.mem_singleton.mp hb]
      exact (nqt a ha).symm⟩
  · intro m
    rcases List.mem_append.mp m with m | m
    · exact h.no m
    · exact nq (List.mem_singleton.mp m).symm
  · rw [List.length_append, List.length_append, h.len]
    rfl
  · by_cases hi : i < ts.length
    · rw [List.getElem?_append_left hi] at e1
      rw [List.getElem?_append_left (by rw [← h.len]; exact hi)] at e2
      have nt : t ≠ o := fun z => h.no (z ▸ List.mem_of_getElem? e1)
      rw [upd_ne nt, upd_ne (nqt t (List.mem_of_getElem? e1)).symm]
      exact h.at' i t x e1 e2
    · have hi' : i = ts.length := by
        have := at_lt e1
        rw [List.length_append, List.length_singleton] at this
        omega
      subst hi'
      rw [List.getElem?_append_right (Nat.le_refl _), Nat.sub_self] at e1
      rw [h.len, List.getElem?_append_right (Nat.le_refl _), Nat.sub_self] at e2
      have e1' : q = t := Option.some.inj e1
      have e2' : r = x := Option.some.inj e2
      subst e1' e2'
      rw [upd_ne nq, upd_same]
  · rcases List.mem_append.mp m with m | m
    · exact h.b t m
    · rw [List.mem_singleton.mp m]
      exact bq
/-- one of them changed -/
theorem RmsAt.set {H : Hp} {B : Addr → Prop} {o : Addr} {ts : List Addr} {rs : List (List Int)} (h : RmsAt H B o ts rs) {i : Nat} {t : Addr} (e : ts[i]? = some t) (r : List Int) :
    RmsAt (upd H t (.lst (r.map V.int))) B o ts (rs.set i r) := by
  have nt : t ≠ o := fun z => h.no (z ▸ List.mem_of_getElem? e)
  refine ⟨?_, h.bo, h.nd, h.no, ?_, fun j u x e1 e2 => ?_, h.b⟩
  · rw [upd_ne nt.symm]
    exact h.top
  · rw [List.length_set]
    exact h.len
  · by_cases hj : j = i
    · subst hj
      have e' : u = t := Option.some.inj (e1.symm.trans e)
      subst e'
      rw [upd_same]
      have hl := at_lt e1
      rw [h.len] at hl
      rw [List.getElem?_set_self hl] at e2
      have : r = x := Option.some.inj e2
      rw [this]
    · rw [List.getElem?_set_ne (fun z => hj z.symm)] at e2
      have hut : u ≠ t := fun z => by
        subst z
        exact hj (nd_ix h.nd e1 e)
      rw [upd_ne hut]
      exact h.at' j u x e1 e2
theorem RmsAt.newTop {H H' : Hp} {B B' : Addr → Prop} {o : Addr} {ts : List Addr} {rs : List (List Int)} (h : RmsAt H B o ts rs) (k : ∀ b u, (b = o ∨ b ∈ ts) → H b = some u → H' b = some u) (kb : ∀ b, (b = o ∨ b ∈ ts) → B' b) : RmsAt H' B' o ts rs :=
  ⟨k _ _ (.inl rfl) h.top, kb _ (.inl rfl), h.nd, h.no, h.len, fun i t r e f => k _ _ (.inr (List.mem_of_getElem? e)) (h.at' i t r e f), fun t m => kb t (.inr m)⟩
/-! ### the dict of patience -/
def pks (gs : List (Int × Int)) : List (L2.Key × V) := gs.map fun g => (Sum.inl g.1, V.int g.2)
theorem pks_len (gs : List (Int × Int)) : (pks gs).length = gs.length := List.length_map _
theorem pks_keys (gs : List (Int × Int)) : (pks gs).map (·.1) = (gs.map (·.1)).map Sum.inl := by
  unfold pks
  rw [List.map_map, List.map_map]
  rfl
theorem pks_snoc (gs : List (Int × Int)) (g : Int × Int) : pks (gs ++ [g]) = pks gs ++ [(Sum.inl g.1, V.int g.2)] := List.map_append
theorem pks_none {gs : List (Int × Int)} {a : Int} (h : a ∉ gs.map (·.1)) : valV (pks gs) (Sum.inl a) = none := by
  induction gs with
  | nil => rfl
  | cons g gs ih =>
    have h' : ¬ (a = g.1 ∨ a ∈ gs.map (·.1)) := fun z => h (by rw [List.map_cons]; exact List.mem_cons.mpr z)
    have n : ¬ (Sum.inl g.1 : L2.Key) = Sum.inl a := fun z => h' (.inl (Sum.inl.inj z).symm)
    show valV ((Sum.inl g.1, V.int g.2) :: pks gs) (Sum.inl a) = none
    rw [valV_neg n]
    exact ih fun z => h' (.inr z)
theorem pks_some : ∀ {gs : List (Int × Int)} {g : Int × Int}, (gs.map (·.1)).Nodup → g ∈ gs → valV (pks gs) (Sum.inl g.1) = some (.int g.2)
  | x :: gs, g, nd, h => by
    have nd' : (x.1 :: gs.map (·.1)).Nodup := nd
    obtain ⟨n1, n2⟩ := List.nodup_cons.mp nd'
    show valV ((Sum.inl x.1, V.int x.2) :: pks gs) (Sum.inl g.1) = some (.int g.2)
    rcases List.mem_cons.mp h with e | h
    · subst e
      rw [valV_pos rfl]
    · have n : ¬ (Sum.inl x.1 : L2.Key) = Sum.inl g.1 := fun z => n1 (by
        rw [Sum.inl.inj z]
        exact List.mem_map.mpr ⟨g, h, rfl⟩)
      rw [valV_neg n]
      exact pks_some n2 h
theorem putK_snoc {gs : List (Int × Int)} {g : Int × Int} (h : g.1 ∉ gs.map (·.1)) : putK (pks gs) (Sum.inl g.1) (V.int g.2) = pks (gs ++ [g]) := by
  rw [putK_new _ (pks_none h), pks_snoc]
theorem Fit.take_no {gs : List (Int × Int)} (f : Fit gs) {i : Nat} {g : Int × Int} (h : gs[i]? = some g) : g.1 ∉ (gs.take i).map (·.1) := by
  intro m
  have e : gs = gs.take i ++ g :: gs.drop (i + 1) := by
    have hl := at_lt h
    have e2 : gs[i] = g := by
      rw [List.getElem?_eq_getElem hl] at h
      exact Option.some.inj h
    rw [← e2, List.getElem_cons_drop, List.take_append_drop]
  have nd := f.nd
  rw [e, List.map_append, List.nodup_append] at nd
  exact nd.2.2 _ m g.1 (by rw [List.map_cons]; exact List.mem_cons_self) rfl
/-! ### rules by a written part that is named (for what stands in a comprehension) -/
section
variable {X : Cx}
theorem lenK (K : PySem.W.Frag) (e : X.K = K := by rfl) : CallR X (.builtin "len") (fun xs H Q => ∃ p ys, xs = [.ref p] ∧ (SqL K H p ys ∨ SqT K H p ys) ∧ Q (.int ys.length) H) := by
  subst e
  exact call_len_seq
theorem ixlK (K : PySem.W.Frag) (e : X.K = K := by rfl) : IxR X (rIxL K) := by
  subst e
  exact ix_list
theorem ixtK (K : PySem.W.Frag) (e : X.K = K := by rfl) : IxR X (rIxT K) := by
  subst e
  exact ix_tup
theorem sllK (K : PySem.W.Frag) (e : X.K = K := by rfl) : SlR X (rSlL K) := by
  subst e
  exact sl_list
theorem eqDK (K : PySem.W.Frag) (hu : X.A.units + 64 < cLine) (e : X.K = K := by rfl) : OpR X (compareOp .Eq) (rEqD K) := by
  subst e
  exact op_eqD hu
theorem neDK (K : PySem.W.Frag) (hu : X.A.units + 64 < cLine) (e : X.K = K := by rfl) : OpR X (compareOp .NotEq) (rNeD K) := by
  subst e
  exact op_neD hu
theorem isiK (K : PySem.W.Frag) (e : X.K = K := by rfl) : CallR X (.builtin "isinstance") (rIsi K) := by
  subst e
  exact call_isi
theorem sumK (K : PySem.W.Frag) (hc : X.calm = true) (e : X.K = K := by rfl) : CallR X (.builtin "sum") (rSum K) := by
  subst e
  exact cr_sum hc
theorem inK (K : PySem.W.Frag) (e : X.K = K := by rfl) : OpR X (compareOp .In) (rIn K false) := by
  subst e
  exact op_in_seq
theorem notInK (K : PySem.W.Frag) (e : X.K = K := by rfl) : OpR X (compareOp .NotIn) (rIn K true) := by
  subst e
  exact op_notIn_seq
theorem listOfK (K : PySem.W.Frag) (e : X.K = K := by rfl) : CallR X (.type "list") (fun xs H Q => ∃ p ys, xs = [.ref p] ∧ (SqL K H p ys ∨ SqT K H p ys) ∧ ∀ l, H l = none → Q (.ref l) (upd H l (.lst ys))) := by
  subst e
  exact call_list_of
theorem pgTupK {es : List Expr} {k : Nat} {t : TGs} {pos : Pos} (K : PySem.W.Frag) (n : Nat) (hc : X.calm = true) (h : PGs X es t)
    (hn : (assignEach es X.env).length = n := by rfl) (hst : (assignEach es X.env).findIdx? (·.1) = none := by rfl) (e : X.K = K := by rfl) : PG X (.Tuple es k pos) (gTup K n t) := by
  subst e
  exact pg_tup hc h hn hst
theorem bmK {T : String} {name : Str} {id : String} {o e : Expr} {es : List Expr} {to : TE} {t : TA} {apos cpos : Pos} {r : V → List V → Hp → VK → Prop} (K : PySem.W.Frag) (pa : PlainAttrs T) (slot : Slot T name id) (hty : typeOf (.builtin id) = pure (.type "method_descriptor")) (hm : MtR X id r) (ho : PE X o to) (ha : PA X (e :: es) t)
    (hbase : attributeBase o name X.env (eval o X.env) = eval o X.env := by rfl)
    (hfew : ((backTo cpos (starEach (e :: es) X.env)).all (fun x => !x.1) && (backToKw cpos (keywordEach [] X.env)).all (fun x => x.1.isSome)
      && decide ((e :: es).length + ([] : List Keyword).length + (if ([] : List Keyword).isEmpty then 0 else 1) < 30)) = true := by rfl)
    (hline : (apos.endLine == cpos.line) = true := by rfl) (hs : starEach (e :: es) X.env = (false, eval e X.env) :: starEach es X.env := by rfl) (hplain : (backTo cpos (starEach es X.env)).any (·.1) = false := by rfl) (eK : X.K = K := by rfl) :
    PE X (.Call (.Attribute o name apos) (e :: es) [] cpos) (tBM K T r to t) := by
  subst eK
  exact pe_bm pa slot hty hm ho ha hbase hfew hline hs hplain
end
/-! ### cuts: what holds between two parts of a body -/
section
variable {σ : L2.St} {H : Hp} {D : Ends} {c : TT} {t u tb : TS}
theorem while_to (W : Nat → L2.St → Hp → Prop) (E : L2.St → Hp → Prop) (h0 : ∃ m, W m σ H) (hd : ∀ σ H, E σ H → D.nx σ H)
    (hs : ∀ X : L2.St → Hp → Prop, (∀ σ H, E σ H → X σ H) → ∀ m σ H, W m σ H → c σ H fun b H1 => if b = true then ∃ N : L2.St → Hp → Prop, (∀ σ' H', N σ' H' → ∃ m', m' < m ∧ W m' σ' H') ∧ tb { D with nx := N, ct := N, bk := X } σ H1 else X σ H1) : tWhile c tb D σ H := ⟨W, h0, hs D.nx hd⟩
theorem seq_to (E : L2.St → Hp → Prop) (h1 : ∀ X : L2.St → Hp → Prop, (∀ σ H, E σ H → X σ H) → t { D with nx := X } σ H) (h2 : ∀ σ H, E σ H → u D σ H) : tSeq t u D σ H := h1 (u D) h2
theorem seq_set {i : Nat} {v : V} (h : u D (σ.set i (some v)) H) : tSeq (tAsg (tC v) (gName i)) u D σ H := h
theorem st_to (E : L2.St → Hp → Prop) (h1 : ∀ X : L2.St → Hp → Prop, (∀ σ H, E σ H → X σ H) → t { D with nx := X } σ H) (h2 : ∀ σ H, E σ H → D.nx σ H) : t D σ H := h1 D.nx h2
end
theorem ixN_of {n j : Nat} (hj : j < n) : ixN n (j : Int) = some j := by
  unfold ixN
  rw [if_pos (by omega), if_pos (by omega), Int.toNat_natCast]
theorem seq_ix {n j : Nat} (hj : j < n) : seqIndex? (j : Int) n = some j := (ixN_seq (ixN_of hj)).1
theorem at_pick {xs : List V} {r : Int} (h0 : 0 ≤ r) (h1 : r < xs.length) : ∃ v, atI xs r = some v ∧ v ∈ xs := by
  obtain ⟨k, rfl⟩ : ∃ k : Nat, r = k := ⟨r.toNat, by omega⟩
  obtain ⟨v, e⟩ := at_some (show k < xs.length by omega)
  exact ⟨v, atI_nat e, List.mem_of_getElem? e⟩
theorem erase_perm {α : Type} : ∀ {l : List α} {k : Nat} {x : α}, l[k]? = some x → (x :: l.eraseIdx k).Perm l
  | [], _, _, h => by simp at h
  | a :: l, 0, x, h => by
    obtain rfl : a = x := Option.some.inj h
    exact List.Perm.refl _
  | a :: l, k + 1, x, h => by
    have ih := erase_perm (l := l) (k := k) (x := x) (by simpa using h)
    exact (List.Perm.swap a x (l.eraseIdx k)).trans (ih.cons a)
/-! ### data -/
def dInts (ns : List Int) : PyData := .list (ns.map .int)
def dGs (gs : List (Int × Int)) : PyData := .list (gs.map fun g => .tuple [.int g.1, .int g.2])
def dRows (rs : List (List Int)) : PyData := .list (rs.map dInts)
theorem canAll : ∀ {xs : List PyData}, (∀ x ∈ xs, x.canLay0 = true) → PyData.canLayAll0 xs = true
  | [], _ => by simp [PyData.canLayAll0]
  | x :: xs, h => by
    rw [PyData.canLayAll0, h x List.mem_cons_self, canAll fun y hy => h y (List.mem_cons_of_mem _ hy)]
    rfl
theorem depAll {n : Nat} : ∀ {xs : List PyData}, (∀ x ∈ xs, x.depth ≤ n) → PyData.depthAll xs ≤ n
  | [], _ => by simp [PyData.depthAll]
  | x :: xs, h => by
    rw [PyData.depthAll]
    exact Nat.max_le.mpr ⟨h x List.mem_cons_self, depAll fun y hy => h y (List.mem_cons_of_mem _ hy)⟩
structure Oks (n : Nat) (d : PyData) : Prop where
  can : d.canLay0 = true
  dep : d.depth ≤ n
theorem Oks.int (i : Int) : Oks 0 (.int i) := ⟨by simp [PyData.canLay0], by simp [PyData.depth]⟩
theorem Oks.mono {n m : Nat} {d : PyData} (h : Oks n d) (k : n ≤ m) : Oks m d := ⟨h.can, Nat.le_trans h.dep k⟩
theorem Oks.lst {n : Nat} {xs : List PyData} (h : ∀ x ∈ xs, Oks n x) : Oks (n + 1) (.list xs) := ⟨by rw [PyData.canLay0]; exact canAll fun x m => (h x m).can, by rw [PyData.depth]; exact Nat.succ_le_succ (depAll fun x m => (h x m).dep)⟩
theorem Oks.tup {n : Nat} {xs : List PyData} (h : ∀ x ∈ xs, Oks n x) : Oks (n + 1) (.tuple xs) := ⟨by rw [PyData.canLay0]; exact canAll fun x m => (h x m).can, by rw [PyData.depth]; exact Nat.succ_le_succ (depAll fun x m => (h x m).dep)⟩
theorem Oks.ints (ns : List Int) : Oks 1 (dInts ns) := .lst fun x m => by
  obtain ⟨n, _, rfl⟩ := List.mem_map.mp m
  exact .int n
theorem Oks.gs (gs : List (Int × Int)) : Oks 2 (dGs gs) := .lst fun x m => by
  obtain ⟨g, _, rfl⟩ := List.mem_map.mp m
  refine .tup fun y hy => ?_
  rcases List.mem_cons.mp hy with rfl | hy
  · exact .int _
  · rw [List.mem_singleton.mp hy]
    exact .int _
theorem Oks.rows (rs : List (List Int)) : Oks 2 (dRows rs) := .lst fun x m => by
  obtain ⟨r, _, rfl⟩ := List.mem_map.mp m
  exact .ints r
theorem Oks.shaped {n : Nat} {d : PyData} (h : Oks n d) (k : n ≤ 64 := by decide) : SeqAt.shaped d = true := by
  unfold SeqAt.shaped
  rw [h.can, decide_eq_true (Nat.le_trans h.dep k)]
  rfl
theorem Oks.eqv {n : Nat} {d : PyData} (h : Oks n d) : PyData.eqv d d = true := SeqAt.eqv_refl d h.can
theorem dp_ints {K : PySem.W.Frag} {H : Hp} {ns : List Int} : DpAll K H (ns.map V.int) (ns.map .int) := by
  induction ns with
  | nil => exact .nil
  | cons n ns ih => exact .cons (.int n) ih
theorem Dp.ints {K : PySem.W.Frag} {H : Hp} {a : Addr} {ns : List Int} (h : H a = some (.lst (ns.map V.int))) : Dp K H (.ref a) (dInts ns) := .lst (SqL.of h) dp_ints
theorem dpAll_of {K : PySem.W.Frag} {H : Hp} : ∀ {vs : List V} {ds : List PyData}, vs.length = ds.length → (∀ (i : Nat) (v : V) (d : PyData), vs[i]? = some v → ds[i]? = some d → Dp K H v d) → DpAll K H vs ds
  | [], [], _, _ => .nil
  | v :: vs, d :: ds, hl, h => .cons (h 0 v d rfl rfl) (dpAll_of (by simpa using hl) fun i v d e f => h (i + 1) v d (by simpa using e) (by simpa using f))
  | [], _ :: _, hl, _ => by simp at hl
  | _ :: _, [], hl, _ => by simp at hl
theorem GsAt.dp {K : PySem.W.Frag} {H : Hp} {B : Addr → Prop} {a : Addr} {ts : List Addr} {gs : List (Int × Int)} (h : GsAt H B a ts gs) : Dp K H (.ref a) (dGs gs) := by
  refine .lst h.seq (dpAll_of (by rw [List.length_map, List.length_map, h.len]) fun i v d e f => ?_)
  obtain ⟨t, g, rfl, eg, et⟩ := h.get e
  rw [List.getElem?_map, eg] at f
  obtain rfl := Option.some.inj f
  exact .tup (SqT.of et) (.cons (.int _) (.cons (.int _) .nil))
theorem RmsAt.dp {K : PySem.W.Frag} {H : Hp} {B : Addr → Prop} {a : Addr} {ts : List Addr} {rs : List (List Int)} (h : RmsAt H B a ts rs) : Dp K H (.ref a) (dRows rs) := by
  refine .lst h.seq (dpAll_of (by rw [List.length_map, List.length_map, h.len]) fun i v d e f => ?_)
  obtain ⟨t, r, rfl, _, er, et⟩ := h.get e
  rw [List.getElem?_map, er] at f
  obtain rfl := Option.some.inj f
  exact Dp.ints et
theorem eqv_nil (gs : List Int) : PyData.eqv (dInts gs) (dInts []) = gs.isEmpty := by
  cases gs with
  | nil => rfl
  | cons x r => rfl
theorem relTy (n : String) : RelV (.ty n) (.type n) := rfl
theorem FnOk.or {P : Program} {w : World} {K : PySem.W.Frag} {mg : Str → Option Value} {base : Heap} {CX : CXT} {k : Nat} {f : Addr} {fd : FuncData} {ps : List Str} {sp sp' : Sp} (F : FnOk P w K mg base CX k f fd ps sp) (F' : FnOk P w K mg base CX k f fd ps sp') :
    FnOk P w K mg base CX k f fd ps (fun vs H Q E => sp vs H Q E ∨ sp' vs H Q E) :=
  ⟨fun vs H Q E h => h.elim (F.len vs H Q E) (F'.len vs H Q E), fun A outer s H args us vs Q E hr e0 hb r h => h.elim (F.run A outer s H args us vs Q E hr e0 hb r) (F'.run A outer s H args us vs Q E hr e0 hb r)⟩
/-! ### built-ins by their names -/
structure Bi (mg : Str → Option Value) : Prop where
  len : mg "len" = none
  range : mg "range" = none
  enumerate : mg "enumerate" = none
  sorted : mg "sorted" = none
  sum : mg "sum" = none
  min : mg "min" = none
  max : mg "max" = none
  isinstance : mg "isinstance" = none
  zip : mg "zip" = none
  list_ : mg "list" = none
  tuple_ : mg "tuple" = none
  int_ : mg "int" = none
  bool_ : mg "bool" = none
  str_ : mg "str" = none
  abs : mg "abs" = none
  repr : mg "repr" = none
  dict_ : mg "dict" = none
  any : mg "any" = none
  all : mg "all" = none
  set_ : mg "set" = none
  reversed : mg "reversed" = none
  ValueError_ : mg "ValueError" = none
  divmod : mg "divmod" = none
end El
namespace El
/-! ### all partings: any placing in peace is no fuller, and the rooms by age are among the partings -/
theorem same_of_nodup {l m : List Int} (hl : l.Nodup) (hm : m.Nodup) (h : ∀ x, x ∈ l ↔ x ∈ m) : l.Perm m := by
  rw [List.perm_iff_count]
  intro x
  by_cases hx : x ∈ l
  · rw [(List.Nodup.count hl (a := x)), (List.Nodup.count hm (a := x)), if_pos hx, if_pos ((h x).mp hx)]
  · rw [(List.Nodup.count hl (a := x)), (List.Nodup.count hm (a := x)), if_neg hx, if_neg fun z => hx ((h x).mpr z)]
theorem add1_mid {p v : Nat} (h : v ≤ p) (B : List Nat) : ∀ A : List Nat, Add1 p (A ++ v :: B) (A ++ (v + 1) :: B)
  | [] => .here h
  | _ :: A => .next (add1_mid h B A)
/-- the guests of the room that are in S -/
def stays (S : List Int) (r : List Int) : List Int := r.filter fun x => decide (x ∈ S)
theorem stays_off {S : List Int} {a : Int} {r : List Int} (h : a ∉ r) : stays (S ++ [a]) r = stays S r := by
  unfold stays
  refine List.filter_congr fun x m => ?_
  have : x ≠ a := fun z => h (z ▸ m)
  simp [this]
theorem stays_in {S : List Int} {a : Int} (ha : a ∉ S) : ∀ {r : List Int}, r.Nodup → a ∈ r → (stays (S ++ [a]) r).length = (stays S r).length + 1
  | b :: r, nd, m => by
    rw [List.nodup_cons] at nd
    unfold stays
    rw [List.filter_cons, List.filter_cons]
    by_cases hb : b = a
    · subst hb
      have e := stays_off (S := S) nd.1
      unfold stays at e
      rw [e]
      simp [ha]
    · have m' : a ∈ r := (List.mem_cons.mp m).resolve_left fun z => hb z.symm
      have ih := stays_in ha nd.2 m'
      unfold stays at ih
      have e1 : decide (b ∈ S ++ [a]) = decide (b ∈ S) := by simp [hb]
      rw [e1]
      cases decide (b ∈ S) with
      | true => rw [if_pos rfl, if_pos rfl, List.length_cons, List.length_cons, ih]
      | false => rw [if_neg Bool.false_ne_true, if_neg Bool.false_ne_true, ih]
theorem calm_dom {gs : List (Int × Int)} (F : Fit gs) {os : List (List Int)} (hp : os.flatten.Perm (gs.map (·.1))) (hc : ∀ r ∈ os, eldUp gs r = none) : Dom (lensN (settle gs)) (lensN os) := by
  have hnd : os.flatten.Nodup := hp.nodup_iff.mpr F.nd
  have key : ∀ i, i ≤ (byAge gs).length → Dom (lensN (settleL ((byAge gs).take i))) (lensN (os.map (stays (((byAge gs).take i).map (·.1))))) := by
    intro i
    induction i with
    | zero =>
      intro _ s hs
      have hz : ∀ x ∈ s, x ≤ 0 := fun x m => by
        have := hs.subset m
        unfold lensN at this
        obtain ⟨r, mr, rfl⟩ := List.mem_map.mp this
        obtain ⟨r', _, rfl⟩ := List.mem_map.mp mr
        rw [List.take_zero]
        unfold stays
        rw [List.filter_eq_nil_iff.mpr fun a _ => by simp]
        exact Nat.le_refl _
      have := sum_low hz
      omega
    | succ i ih =>
      intro hi
      have d := ih (by omega)
      obtain ⟨g, eg⟩ : ∃ g, (byAge gs)[i]? = some g := ⟨_, List.getElem?_eq_getElem (by omega)⟩
      have mg : g ∈ gs := (byAge_perm gs).mem_iff.mp (List.mem_of_getElem? eg)
      have et := take_snoc eg
      rw [settleL_take eg, et, List.map_append]
      generalize hS : ((byAge gs).take i).map (·.1) = S at d ⊢
      -- those before are elder
      have hdist : ((byAge gs).map (·.1)).Nodup := ((byAge_perm gs).map _).nodup_iff.mpr F.nd
      have hsp : (byAge gs).map (·.1) = S ++ g.1 :: ((byAge gs).drop (i + 1)).map (·.1) := by
        have h1 := (List.take_append_drop (i + 1) (byAge gs)).symm
        rw [et, List.append_assoc] at h1
        have h2 := congrArg (List.map (·.1)) h1
        rw [List.map_append, hS] at h2
        exact h2
      have hgS : g.1 ∉ S := fun m => by
        rw [hsp] at hdist
        exact (List.nodup_append.mp hdist).2.2 g.1 m g.1 (.head _) rfl
      have helder : ∀ x ∈ S, g.1 < x := fun x m => by
        have h1 : ((byAge gs).map (·.1)).Pairwise fun a b => b ≤ a := by
          rw [List.pairwise_map]
          exact byAge_sorted gs
        rw [hsp] at h1
        have h2 := (List.pairwise_append.mp h1).2.2 x m g.1 (.head _)
        have : x ≠ g.1 := fun z => hgS (z ▸ m)
        omega
      -- the guest's room
      have hin : g.1 ∈ os.flatten := hp.mem_iff.mpr (List.mem_map_of_mem mg)
      obtain ⟨r, mr, gr⟩ := List.mem_flatten.mp hin
      obtain ⟨A, B, rfl⟩ := List.append_of_mem mr
      have hrn : r.Nodup := flat_nd hnd mr
      rw [List.flatten_append, List.flatten_cons] at hnd
      have hA : ∀ q ∈ A, g.1 ∉ q := fun q mq m => (List.nodup_append.mp hnd).2.2 g.1 (List.mem_flatten.mpr ⟨q, mq, m⟩) g.1 (List.mem_append_left _ gr) rfl
      have hB : ∀ q ∈ B, g.1 ∉ q := fun q mq m => (List.nodup_append.mp (List.nodup_append.mp hnd).2.1).2.2 g.1 gr g.1 (List.mem_flatten.mpr ⟨q, mq, m⟩) rfl
      have hle : (stays S r).length ≤ g.2.toNat := by
        have h1 := (eldUp_iff hrn).mp (hc r mr) g.1 gr
        rw [pof_is F.nd mg] at h1
        have h2 : (stays S r).length ≤ (above r g.1).length := by
          unfold stays above
          rw [← List.countP_eq_length_filter, ← List.countP_eq_length_filter]
          exact List.countP_mono_left fun x _ hx => decide_eq_true (helder x (of_decide_eq_true hx))
        omega
      refine dom_place (F.pos g mg) d ?_
      unfold lensN
      rw [List.map_append, List.map_append, List.map_append, List.map_append, List.map_cons, List.map_cons, List.map_cons, List.map_cons]
      have eA : (A.map (stays (S ++ [g.1]))) = A.map (stays S) := List.map_congr_left fun q mq => stays_off (hA q mq)
      have eB : (B.map (stays (S ++ [g.1]))) = B.map (stays S) := List.map_congr_left fun q mq => stays_off (hB q mq)
      have er : (stays (S ++ [g.1]) r).length = (stays S r).length + 1 := stays_in hgS hrn gr
      show Add1 _ _ ((A.map (stays (S ++ [g.1]))).map List.length ++ (stays (S ++ [g.1]) r).length :: (B.map (stays (S ++ [g.1]))).map List.length)
      rw [eA, eB, er]
      exact add1_mid hle _ _
  have h := key (byAge gs).length (Nat.le_refl _)
  rw [take_full] at h
  have e : os.map (stays ((byAge gs).map (·.1))) = os := by
    refine (List.map_congr_left fun r mr => ?_).trans (List.map_id os)
    refine List.filter_eq_self.mpr fun x mx => decide_eq_true (((byAge_perm gs).map _).mem_iff.mpr (hp.mem_iff.mp (List.mem_flatten.mpr ⟨r, mr, mx⟩)))
  rw [e] at h
  exact h
/-! ### guests put to those of their colour -/
/-- into the first room that is fine, or a new one -/
def putIf (ok : List Int → Bool) (a : Int) : List (List Int) → List (List Int)
  | [] => [[a]]
  | r :: rs => if ok r = true then (r ++ [a]) :: rs else r :: putIf ok a rs
def firstIf (ok : List Int → Bool) : List (List Int) → Nat
  | [] => 0
  | r :: rs => if ok r = true then 0 else firstIf ok rs + 1
theorem firstIf_le (ok : List Int → Bool) : ∀ rs, firstIf ok rs ≤ rs.length
  | [] => Nat.le_refl _
  | r :: rs => by
    unfold firstIf
    split
    · exact Nat.zero_le _
    · have := firstIf_le ok rs
      rw [List.length_cons]
      omega
theorem putIf_at (ok : List Int → Bool) (a : Int) : ∀ (rs : List (List Int)) (r : List Int), rs[firstIf ok rs]? = some r → putIf ok a rs = rs.set (firstIf ok rs) (r ++ [a])
  | [], _, e => by cases e
  | q :: rs, r, e => by
    unfold firstIf putIf at *
    by_cases h : ok q = true
    · rw [if_pos h] at e ⊢
      rw [if_pos h]
      obtain rfl : q = r := Option.some.inj e
      rfl
    · rw [if_neg h] at e ⊢
      rw [if_neg h, putIf_at ok a rs r (by simpa using e)]
      rfl
theorem putIf_new (ok : List Int → Bool) (a : Int) : ∀ (rs : List (List Int)), firstIf ok rs = rs.length → putIf ok a rs = rs ++ [[a]]
  | [], _ => rfl
  | q :: rs, e => by
    unfold firstIf putIf at *
    by_cases h : ok q = true
    · rw [if_pos h] at e
      cases e
    · rw [if_neg h] at e ⊢
      rw [putIf_new ok a rs (by rw [List.length_cons] at e; omega)]
      rfl
section
variable (c : Int → Nat)
def hasC (j : Nat) (r : List Int) : Bool := decide (r.head?.map c = some j)
def grp (ns : List Int) : List (List Int) := ns.foldl (fun rs a => putIf (hasC c (c a)) a rs) []
def ofC (ns : List Int) (j : Nat) : List Int := ns.filter fun x => decide (c x = j)
theorem grp_snoc (ns : List Int) (a : Int) : grp c (ns ++ [a]) = putIf (hasC c (c a)) a (grp c ns) := by
  unfold grp
  rw [List.foldl_append]
  rfl
theorem hasC_is {ns : List Int} {j k : Nat} (h : ∃ x ∈ ns, c x = j) : hasC c k (ofC c ns j) = decide (j = k) := by
  obtain ⟨x, mx, ex⟩ := h
  have hm : x ∈ ofC c ns j := List.mem_filter.mpr ⟨mx, decide_eq_true ex⟩
  cases hd : ofC c ns j with
  | nil => rw [hd] at hm; cases hm
  | cons y r =>
    have my : y ∈ ofC c ns j := hd ▸ .head _
    have ey : c y = j := of_decide_eq_true (List.mem_filter.mp my).2
    unfold hasC
    rw [List.head?_cons, Option.map_some, ey]
    simp
theorem ofC_snoc (ns : List Int) (a : Int) (j : Nat) : ofC c (ns ++ [a]) j = ofC c ns j ++ if c a = j then [a] else [] := by
  unfold ofC
  rw [List.filter_append]
  congr 1
  by_cases h : c a = j
  · rw [if_pos h, List.filter_cons_of_pos (by simpa using h)]
    rfl
  · rw [if_neg h, List.filter_cons_of_neg (by simpa using h)]
    rfl
theorem put_old (ns : List Int) (a : Int) : ∀ cs : List Nat, cs.Nodup → (∀ j ∈ cs, ∃ x ∈ ns, c x = j) → c a ∈ cs → putIf (hasC c (c a)) a (cs.map (ofC c ns)) = cs.map (ofC c (ns ++ [a]))
  | j :: cs, nd, hx, m => by
    rw [List.nodup_cons] at nd
    rw [List.map_cons, List.map_cons]
    unfold putIf
    rw [hasC_is c (hx j (.head _))]
    by_cases h : j = c a
    · rw [if_pos (decide_eq_true h), ofC_snoc, if_pos h.symm]
      congr 1
      refine List.map_congr_left fun k mk => ?_
      have : c a ≠ k := fun z => nd.1 (h ▸ z ▸ mk)
      rw [ofC_snoc, if_neg this, List.append_nil]
    · rw [if_neg (by simpa using h), ofC_snoc, if_neg fun z => h z.symm, List.append_nil]
      congr 1
      exact put_old ns a cs nd.2 (fun k mk => hx k (.tail _ mk)) ((List.mem_cons.mp m).resolve_left fun z => h z.symm)
theorem put_fresh (ns : List Int) (a : Int) : ∀ cs : List Nat, (∀ j ∈ cs, ∃ x ∈ ns, c x = j) → c a ∉ cs → putIf (hasC c (c a)) a (cs.map (ofC c ns)) = cs.map (ofC c (ns ++ [a])) ++ [[a]]
  | [], _, _ => rfl
  | j :: cs, hx, m => by
    have h : j ≠ c a := fun z => m (z ▸ .head _)
    rw [List.map_cons, List.map_cons]
    unfold putIf
    rw [hasC_is c (hx j (.head _)), if_neg (by simpa using h), ofC_snoc, if_neg fun z => h z.symm, List.append_nil, put_fresh ns a cs (fun k mk => hx k (.tail _ mk)) fun z => m (.tail _ z)]
    rfl
theorem grp_is (ns : List Int) : ∃ cs : List Nat, cs.Nodup ∧ (∀ j, j ∈ cs ↔ ∃ x ∈ ns, c x = j) ∧ grp c ns = cs.map (ofC c ns) := by
  suffices h : ∀ n, n ≤ ns.length → ∃ cs : List Nat, cs.Nodup ∧ (∀ j, j ∈ cs ↔ ∃ x ∈ ns.take n, c x = j) ∧ grp c (ns.take n) = cs.map (ofC c (ns.take n)) by
    have := h ns.length (Nat.le_refl _)
    rwa [take_full] at this
  intro n
  induction n with
  | zero => exact fun _ => ⟨[], .nil, fun j => by simp, by rw [List.take_zero]; rfl⟩
  | succ n ih =>
    intro hn
    obtain ⟨cs, nd, hm, e⟩ := ih (by omega)
    obtain ⟨a, ea⟩ : ∃ a, ns[n]? = some a := ⟨_, List.getElem?_eq_getElem (by omega)⟩
    rw [take_snoc ea, grp_snoc, e]
    by_cases h : c a ∈ cs
    · refine ⟨cs, nd, fun j => ?_, put_old c _ a cs nd (fun j mj => (hm j).mp mj) h⟩
      rw [hm]
      constructor
      · exact fun ⟨x, mx, ex⟩ => ⟨x, List.mem_append_left _ mx, ex⟩
      · rintro ⟨x, mx, ex⟩
        rcases List.mem_append.mp mx with mx | mx
        · exact ⟨x, mx, ex⟩
        · rw [List.mem_singleton.mp mx] at ex
          exact (hm j).mp (ex ▸ h)
    · refine ⟨cs ++ [c a], ?_, fun j => ?_, ?_⟩
      · exact List.nodup_append.mpr ⟨nd, List.pairwise_singleton _ _, fun x mx y my z => h (by rw [← List.mem_singleton.mp my, ← z]; exact mx)⟩
      · rw [List.mem_append, hm]
        constructor
        · rintro (⟨x, mx, ex⟩ | z)
          · exact ⟨x, List.mem_append_left _ mx, ex⟩
          · exact ⟨a, List.mem_append_right _ (.head _), (List.mem_singleton.mp z).symm⟩
        · rintro ⟨x, mx, ex⟩
          rcases List.mem_append.mp mx with mx | mx
          · exact .inl ⟨x, mx, ex⟩
          · rw [List.mem_singleton.mp mx] at ex
            exact .inr (List.mem_singleton.mpr ex.symm)
      · rw [put_fresh c _ a cs (fun j mj => (hm j).mp mj) h, List.map_append]
        congr 1
        show [[a]] = [ofC c _ (c a)]
        rw [ofC_snoc, if_pos rfl]
        have : ofC c (ns.take n) (c a) = [] := by
          unfold ofC
          rw [List.filter_eq_nil_iff]
          exact fun x mx z => h ((hm _).mpr ⟨x, mx, of_decide_eq_true z⟩)
        rw [this]
        rfl
end
/-- the room of the rooms by age that a guest is in -/
def roomIn (rs : List (List Int)) (a : Int) : Nat := rs.findIdx fun r => decide (a ∈ r)
theorem roomIn_is {rs : List (List Int)} (nd : rs.flatten.Nodup) {j : Nat} {r : List Int} (e : rs[j]? = some r) {a : Int} : (a ∈ rs.flatten ∧ roomIn rs a = j) ↔ a ∈ r := by
  have uniq : ∀ {i k : Nat} {p q : List Int}, rs[i]? = some p → rs[k]? = some q → a ∈ p → a ∈ q → i = k := fun {i k p q} e1 e2 h1 h2 => by
    have hi := (List.getElem?_eq_some_iff.mp e1)
    have hk := (List.getElem?_eq_some_iff.mp e2)
    have pw := (List.pairwise_flatten.mp nd).2
    rcases Nat.lt_trichotomy i k with h | h | h
    · exact absurd rfl (List.pairwise_iff_getElem.mp pw i k hi.1 hk.1 h a (hi.2 ▸ h1) a (hk.2 ▸ h2))
    · exact h
    · exact absurd rfl (List.pairwise_iff_getElem.mp pw k i hk.1 hi.1 h a (hk.2 ▸ h2) a (hi.2 ▸ h1))
  have found : a ∈ rs.flatten → ∃ q, rs[roomIn rs a]? = some q ∧ a ∈ q := fun m => by
    obtain ⟨q, mq, aq⟩ := List.mem_flatten.mp m
    have lt : roomIn rs a < rs.length := List.findIdx_lt_length_of_exists ⟨q, mq, decide_eq_true aq⟩
    exact ⟨rs[roomIn rs a], List.getElem?_eq_getElem lt, of_decide_eq_true (List.findIdx_getElem (w := lt))⟩
  constructor
  · rintro ⟨m, rfl⟩
    obtain ⟨q, eq, aq⟩ := found m
    rw [e] at eq
    exact Option.some.inj eq ▸ aq
  · intro m
    have mf : a ∈ rs.flatten := List.mem_flatten.mpr ⟨r, List.mem_of_getElem? e, m⟩
    obtain ⟨q, eq, aq⟩ := found mf
    exact ⟨mf, uniq eq e aq m⟩
theorem grp_settle {gs : List (Int × Int)} (F : Fit gs) :
    (lensN (grp (roomIn (settle gs)) (gs.map (·.1)))).Perm (lensN (settle gs)) ∧ ∀ r ∈ grp (roomIn (settle gs)) (gs.map (·.1)), eldUp gs r = none := by
  have nd : (settle gs).flatten.Nodup := (settle_flat gs).nodup_iff.mpr F.nd
  obtain ⟨cs, ncs, hm, e⟩ := grp_is (roomIn (settle gs)) (gs.map (·.1))
  have in_flat : ∀ x, x ∈ gs.map (·.1) ↔ x ∈ (settle gs).flatten := fun x => ((settle_flat gs).mem_iff).symm
  have hcs : ∀ j, j ∈ cs ↔ j < (settle gs).length := fun j => by
    rw [hm]
    constructor
    · rintro ⟨x, mx, ex⟩
      obtain ⟨q, mq, xq⟩ := List.mem_flatten.mp ((in_flat x).mp mx)
      exact ex ▸ List.findIdx_lt_length_of_exists ⟨q, mq, decide_eq_true xq⟩
    · intro h
      have er : (settle gs)[j]? = some (settle gs)[j] := List.getElem?_eq_getElem h
      cases hd : (settle gs)[j] with
      | nil => exact absurd hd (settleL_ne _ _ (List.getElem_mem h))
      | cons x r =>
        have mx : x ∈ (settle gs)[j] := hd ▸ .head _
        have := (roomIn_is nd er).mpr mx
        exact ⟨x, (in_flat x).mpr this.1, this.2⟩
  have room : ∀ j (h : j < (settle gs).length), (ofC (roomIn (settle gs)) (gs.map (·.1)) j).Perm (settle gs)[j] := fun j h => by
    refine same_of_nodup (F.nd.filter _) (flat_nd nd (List.getElem_mem h)) fun x => ?_
    unfold ofC
    rw [List.mem_filter, decide_eq_true_iff, in_flat]
    exact roomIn_is nd (List.getElem?_eq_getElem h)
  constructor
  · have pr : cs.Perm (List.range (settle gs).length) := by
      rw [List.perm_iff_count]
      intro x
      rw [(List.Nodup.count ncs (a := x)), (List.Nodup.count List.nodup_range (a := x))]
      by_cases hx : x ∈ cs
      · rw [if_pos hx, if_pos (List.mem_range.mpr ((hcs x).mp hx))]
      · rw [if_neg hx, if_neg fun z => hx ((hcs x).mpr (List.mem_range.mp z))]
    rw [e]
    unfold lensN
    rw [List.map_map]
    have e2 : (settle gs).map List.length = (List.range (settle gs).length).map fun j => ((settle gs).getD j []).length := by
      refine List.ext_getElem (by simp) fun i h1 h2 => ?_
      have hi : i < (settle gs).length := by simpa using h1
      simp [List.getD_eq_getElem?_getD, List.getElem?_eq_getElem hi]
    rw [e2]
    refine List.Perm.trans ?_ (pr.map _)
    have : (cs.map (List.length ∘ ofC (roomIn (settle gs)) (gs.map (·.1)))) = cs.map fun j => ((settle gs).getD j []).length := List.map_congr_left fun j mj => by
      have h := (hcs j).mp mj
      show (ofC _ _ j).length = _
      rw [(room j h).length_eq, List.getD_eq_getElem?_getD, List.getElem?_eq_getElem h]
      rfl
    rw [this]
  · intro r mr
    rw [e] at mr
    obtain ⟨j, mj, rfl⟩ := List.mem_map.mp mr
    have h := (hcs j).mp mj
    exact fine_calm F (settle_fine F (List.getElem_mem h)) (room j h)
end El
namespace El
open PySem PySem.Spec PyProof.Rows L2
/-- how many live in each -/
def lens (rs : List (List Int)) : List Int := rs.map fun r => (r.length : Int)
theorem lens_length (rs : List (List Int)) : (lens rs).length = rs.length := List.length_map _
theorem lens_at {rs : List (List Int)} {i : Nat} {r : List Int} (h : rs[i]? = some r) : (lens rs)[i]? = some (r.length : Int) := by
  unfold lens
  rw [List.getElem?_map, h]
  rfl
theorem cut_to (xs : List V) (j : Nat) : cutV xs none (some (j : Int)) = xs.take j := by
  unfold cutV
  rw [HT.sIx_none, HT.sIx_nat]
  show (List.drop 0 xs).take (min j xs.length - 0) = _
  rw [List.drop_zero, Nat.sub_zero, ← List.take_eq_take_min]
/-- the pair that stands at a value -/
def prOf (H : Hp) : V → Int × Int
  | .ref t => match H t with
    | some (.tup [.int i, .int j]) => (i, j)
    | _ => (0, 0)
  | _ => (0, 0)
theorem prOf_is {H : Hp} {t : Addr} {g : Int × Int} (h : H t = some (.tup [.int g.1, .int g.2])) : prOf H (.ref t) = g := by
  show (match H t with
    | some (.tup [.int i, .int j]) => (i, j)
    | _ => (0, 0)) = g
  rw [h]
theorem GsAt.prs {H : Hp} {B : Addr → Prop} {a : Addr} {ts : List Addr} {gs : List (Int × Int)} (h : GsAt H B a ts gs) : (ts.map V.ref).map (prOf H) = gs := by
  refine List.ext_getElem? fun i => ?_
  rw [List.getElem?_map]
  cases e : (ts.map V.ref)[i]? with
  | none =>
    have hl : (ts.map V.ref).length ≤ i := List.getElem?_eq_none_iff.mp e
    rw [List.length_map, h.len] at hl
    rw [List.getElem?_eq_none_iff.mpr hl]
    rfl
  | some x =>
    obtain ⟨t, g, rfl, eg, et⟩ := h.get e
    rw [eg]
    show some (prOf H (.ref t)) = some g
    rw [prOf_is et]
theorem GsAt.mem {H : Hp} {B : Addr → Prop} {a : Addr} {ts : List Addr} {gs : List (Int × Int)} (h : GsAt H B a ts gs) : ∀ x ∈ ts.map V.ref, ∃ t, x = V.ref t ∧ H t = some (.tup [.int (prOf H x).1, .int (prOf H x).2]) := fun x m => by
  obtain ⟨i, e⟩ := List.mem_iff_getElem?.mp m
  obtain ⟨t, g, rfl, eg, et⟩ := h.get e
  refine ⟨t, rfl, ?_⟩
  rw [prOf_is et]
  exact et
theorem sorted_prs {k : V → Int × Int} {ys xs : List V} {gs : List (Int × Int)} (f : Fit gs) (hx : xs.map k = gs) (hs : SrtO.Srtd (ltP k) ys) (hb : SrtO.Stb (ltP k) ys xs) : ys.reverse.map k = byAge gs := by
  refine byAge_of f ?_ ?_
  · rw [← hx]
    exact ((List.reverse_perm ys).trans hb.perm).map k
  · rw [List.map_reverse, List.pairwise_reverse, List.pairwise_map]
    refine hs.imp fun {a b} h => ?_
    have h' : SrtO.lexB (k b) (k a) = false := h
    rw [SrtO.lexB_no] at h'
    omega
theorem cut_1 (xs : List V) : cutV xs (some 1) none = xs.drop 1 := by
  unfold cutV
  rw [show HT.sIx xs.length 0 (some 1) = min 1 xs.length from HT.sIx_nat xs.length 0 1, HT.sIx_none]
  cases xs with
  | nil => rfl
  | cons x r =>
    rw [show min 1 (x :: r).length = 1 by
      rw [List.length_cons]
      omega]
    show (List.take ((x :: r).length - 1) r) = r
    rw [List.length_cons, Nat.add_sub_cancel]
    exact List.take_length
theorem lens_falls {gs : List (Int × Int)} (f : Fit gs) {i : Nat} {x y : Int} (h1 : (lens (settle gs))[i]? = some x) (h2 : ((lens (settle gs)).drop 1)[i]? = some y) : ¬ x < y := by
  rw [List.getElem?_drop] at h2
  unfold lens at h1 h2
  rw [List.getElem?_map] at h1 h2
  have hp := settleL_falls (byAge gs) f.byAge.pos
  cases e1 : (settle gs)[i]? with
  | none => rw [e1] at h1; cases h1
  | some r =>
    cases e2 : (settle gs)[1 + i]? with
    | none => rw [e2] at h2; cases h2
    | some s =>
      rw [e1] at h1
      rw [e2] at h2
      obtain rfl : (r.length : Int) = x := Option.some.inj h1
      obtain rfl : (s.length : Int) = y := Option.some.inj h2
      obtain ⟨l1, q1⟩ := List.getElem?_eq_some_iff.mp (show (settleL (byAge gs))[i]? = some r from e1)
      obtain ⟨l2, q2⟩ := List.getElem?_eq_some_iff.mp (show (settleL (byAge gs))[1 + i]? = some s from e2)
      have := List.pairwise_iff_getElem.mp hp i (1 + i) l1 l2 (by omega)
      rw [q1, q2] at this
      omega
theorem dget_pks {H : Hp} {d : Addr} {gs : List (Int × Int)} {g : Int × Int} (h : H d = some (.dK (pks gs))) (f : Fit gs) (m : g ∈ gs) : DGet H d (.int g.1) (some (.int g.2)) := by
  have q := DGet.k (k := Sum.inl g.1) h
  rw [pks_some f.nd m] at q
  exact q
theorem log_lt {m : Int} {k : Nat} (h0 : 0 < m) (h : m < 2 ^ k) : m.natAbs.log2 < k := by
  obtain ⟨j, rfl⟩ : ∃ j : Nat, m = j := ⟨m.toNat, by omega⟩
  have h' : j < 2 ^ k := by exact_mod_cast h
  rw [Int.natAbs_natCast]
  exact (Nat.log2_lt (by omega)).mpr h'
theorem GsAt.mix {H : Hp} {B B' : Addr → Prop} {a m : Addr} {ts : List Addr} {gs : List (Int × Int)} {ys : List V} (h : GsAt H B a ts gs) (e : H m = some (.lst ys)) (bm : B' m) (hb : ∀ b, B b → B' b) (p : ys.Perm (ts.map V.ref)) :
    ∃ ts' gs', GsAt H B' m ts' gs' ∧ gs'.Perm gs := by
  have hm : ∀ y ∈ ys, ∃ t, y = V.ref t ∧ t ∈ ts := fun y hy => by
    obtain ⟨t, ht, rfl⟩ := List.mem_map.mp (p.mem_iff.mp hy)
    exact ⟨t, rfl, ht⟩
  obtain ⟨us, rfl, hu⟩ : ∃ us : List Addr, ys = us.map V.ref ∧ ∀ u ∈ us, u ∈ ts := by
    clear p e
    induction ys with
    | nil => exact ⟨[], rfl, fun u hu => absurd hu (by simp)⟩
    | cons y ys ih =>
      obtain ⟨t, rfl, ht⟩ := hm y List.mem_cons_self
      obtain ⟨us, rfl, hu⟩ := ih fun z hz => hm z (List.mem_cons_of_mem _ hz)
      exact ⟨t :: us, rfl, fun u h => by
        rcases List.mem_cons.mp h with rfl | h
        · exact ht
        · exact hu u h⟩
  refine ⟨us, (us.map V.ref).map (prOf H), ⟨e, bm, by rw [List.length_map, List.length_map], fun i t g e1 e2 => ?_, fun t ht => hb t (h.b t (hu t ht))⟩, ?_⟩
  · rw [List.getElem?_map, List.getElem?_map, e1] at e2
    have e2' : prOf H (.ref t) = g := Option.some.inj e2
    obtain ⟨j, ej⟩ := List.mem_iff_getElem?.mp (hu t (List.mem_of_getElem? e1))
    obtain ⟨t', g', e3, eg, et⟩ := h.get (i := j) (x := .ref t) (by rw [List.getElem?_map, ej]; rfl)
    injection e3 with e3
    subst e3
    rw [prOf_is et] at e2'
    rw [← e2']
    exact et
  · have := p.map (prOf H)
    rw [h.prs] at this
    exact this
/-- put in anywhere -/
theorem GsAt.ins {H : Hp} {B : Addr → Prop} {a : Addr} {ts : List Addr} {gs : List (Int × Int)} {ys : List V} (h : GsAt H B a ts gs) (hn : a ∉ ts) {q : Addr} {g : Int × Int} (e : H q = some (.tup [.int g.1, .int g.2])) (bq : B q) (p : ys.Perm (ts.map V.ref ++ [.ref q])) :
    ∃ ts' gs', GsAt (upd H a (.lst ys)) B a ts' gs' ∧ gs'.Perm (gs ++ [g]) ∧ a ∉ ts' ∧ ys = ts'.map V.ref := by
  have nq : q ≠ a := fun z => by
    rw [z, h.top] at e
    cases e
  have hm : ∀ y ∈ ys, ∃ t, y = V.ref t ∧ t ∈ ts ++ [q] := fun y hy => by
    rcases List.mem_append.mp (p.mem_iff.mp hy) with m | m
    · obtain ⟨t, ht, rfl⟩ := List.mem_map.mp m
      exact ⟨t, rfl, List.mem_append_left _ ht⟩
    · exact ⟨q, List.mem_singleton.mp m, List.mem_append_right _ (List.mem_singleton.mpr rfl)⟩
  obtain ⟨us, rfl, hu⟩ : ∃ us : List Addr, ys = us.map V.ref ∧ ∀ u ∈ us, u ∈ ts ++ [q] := by
    clear p
    induction ys with
    | nil => exact ⟨[], rfl, fun u hu => absurd hu (by simp)⟩
    | cons y ys ih =>
      obtain ⟨t, rfl, ht⟩ := hm y List.mem_cons_self
      obtain ⟨us, rfl, hu⟩ := ih fun z hz => hm z (List.mem_cons_of_mem _ hz)
      exact ⟨t :: us, rfl, fun u h => by
        rcases List.mem_cons.mp h with rfl | h
        · exact ht
        · exact hu u h⟩
  have ha : ∀ u ∈ us, u ≠ a ∧ B u ∧ ∃ x : Int × Int, H u = some (.tup [.int x.1, .int x.2]) := fun u m => by
    rcases List.mem_append.mp (hu u m) with m | m
    · obtain ⟨j, ej⟩ := List.mem_iff_getElem?.mp m
      obtain ⟨t', g', e3, eg, et⟩ := h.get (i := j) (x := .ref u) (by rw [List.getElem?_map, ej]; rfl)
      injection e3 with e3
      subst e3
      exact ⟨fun z => hn (z ▸ m), h.b u m, g', et⟩
    · rw [List.mem_singleton.mp m]
      exact ⟨nq, bq, g, e⟩
  refine ⟨us, (us.map V.ref).map (prOf H), ⟨upd_same, h.ba, by rw [List.length_map, List.length_map], fun i t x e1 e2 => ?_, fun t m => (ha t m).2.1⟩, ?_, fun m => (ha a m).1 rfl, rfl⟩
  · rw [List.getElem?_map, List.getElem?_map, e1] at e2
    have e2' : prOf H (.ref t) = x := Option.some.inj e2
    obtain ⟨n1, _, y, ey⟩ := ha t (List.mem_of_getElem? e1)
    rw [prOf_is ey] at e2'
    subst e2'
    rw [upd_ne n1]
    exact ey
  · have := p.map (prOf H)
    rw [List.map_append, h.prs] at this
    rw [show [V.ref q].map (prOf H) = [g] by show [prOf H (.ref q)] = [g]; rw [prOf_is e]] at this
    exact this
theorem GsAt.cat {H : Hp} {B : Addr → Prop} {a l : Addr} {ts : List Addr} {gs : List (Int × Int)} (h : GsAt H B a ts gs) {q : Addr} {g : Int × Int} (e : H q = some (.tup [.int g.1, .int g.2])) (el : H l = some (.lst (ts.map V.ref ++ [.ref q]))) :
    GsAt H (fun _ => True) l (ts ++ [q]) (gs ++ [g]) := by
  refine ⟨by rw [List.map_append]; exact el, trivial, by rw [List.length_append, List.length_append, h.len]; rfl, fun i t x e1 e2 => ?_, fun _ _ => trivial⟩
  by_cases hi : i < ts.length
  · rw [List.getElem?_append_left hi] at e1
    rw [List.getElem?_append_left (by rw [← h.len]; exact hi)] at e2
    exact h.at' i t x e1 e2
  · have hi' : i = ts.length := by
      have := at_lt e1
      rw [List.length_append, List.length_singleton] at this
      omega
    subst hi'
    rw [List.getElem?_append_right (Nat.le_refl _), Nat.sub_self] at e1
    rw [h.len, List.getElem?_append_right (Nat.le_refl _), Nat.sub_self] at e2
    obtain rfl : q = t := Option.some.inj e1
    obtain rfl : g = x := Option.some.inj e2
    exact e
theorem inV_ints (x : Int) (ns : List Int) : inV (.int x) (ns.map V.int) = decide (x ∈ ns) := by
  unfold inV
  rw [List.any_map]
  induction ns with
  | nil => rfl
  | cons n ns ih =>
    rw [List.any_cons, ih]
    have e : ((fun y => eqV y (V.int x)) ∘ V.int) n = decide (x = n) := by
      show eqV (.int n) (.int x) = decide (x = n)
      have e2 : eqV (.int n) (.int x) = decide (n = x) := by
        unfold eqV
        first | rfl | simp
      rw [e2]
      by_cases h : n = x
      · subst h; simp
      · rw [decide_eq_false h, decide_eq_false (fun z => h z.symm)]
    rw [e]
    by_cases h : x = n
    · subst h
      simp
    · rw [decide_eq_false h, Bool.false_or]
      by_cases h2 : x ∈ ns
      · rw [decide_eq_true h2, decide_eq_true (List.mem_cons_of_mem _ h2)]
      · rw [decide_eq_false h2, decide_eq_false (fun z => (List.mem_cons.mp z).elim h h2)]
theorem flat_ints (ns : List Int) : (ns.map V.int).all flatV = true := by
  rw [List.all_map, List.all_eq_true]
  intro x _
  rfl
theorem eqvAll_ints : ∀ a b : List Int, PyData.eqvAll (a.map .int) (b.map .int) = decide (a = b)
  | [], [] => rfl
  | [], y :: b => by
    rw [decide_eq_false (by simp)]
    rfl
  | x :: a, [] => by
    rw [decide_eq_false (by simp)]
    rfl
  | x :: a, y :: b => by
    rw [List.map_cons, List.map_cons, PyData.eqvAll, eqvAll_ints a b]
    show ((x == y) && decide (a = b)) = _
    by_cases h : x = y
    · subst h
      by_cases h2 : a = b
      · subst h2
        simp
      · rw [decide_eq_false h2, decide_eq_false (fun z => h2 (List.cons.inj z).2)]
        simp
    · have : (x == y) = false := by simpa using h
      rw [this, decide_eq_false (fun z => h (List.cons.inj z).1)]
      rfl
theorem eqv_ints (a b : List Int) : PyData.eqv (dInts a) (dInts b) = decide (a = b) := by
  unfold dInts
  rw [PyData.eqv]
  exact eqvAll_ints a b
theorem cut_at (xs : List V) (k : Nat) : cutV xs (some (k : Int)) (some ((k : Int) + 1)) = (xs.drop k).take 1 := by
  unfold cutV
  rw [HT.sIx_nat, show (k : Int) + 1 = ((k + 1 : Nat) : Int) by omega, HT.sIx_nat]
  by_cases h : k < xs.length
  · rw [Nat.min_eq_left (by omega), Nat.min_eq_left (by omega), Nat.add_sub_cancel_left]
  · have h1 : min k xs.length = xs.length := by omega
    have h2 : min (k + 1) xs.length = xs.length := by omega
    rw [h1, h2, Nat.sub_self, List.take_zero, List.drop_of_length_le (show xs.length ≤ k by omega)]
    rfl
theorem drop_take1 (L : List Int) (k : Nat) : (L.drop k).take 1 = L[k]?.toList := by
  by_cases h : k < L.length
  · rw [List.getElem?_eq_getElem h, List.drop_eq_getElem_cons h]
    rfl
  · rw [List.getElem?_eq_none (by omega), List.drop_of_length_le (by omega)]
    rfl
end El
namespace El
open PySem PySem.Spec PyProof.Rows L2
section
variable {X : Cx}
/-- the walk over a list -/
theorem gathers_list {pins : List (Addr × Obj)} {σ : L2.St} {H : Hp} {s : Shared} {a : Addr} {xs : List V} (I : Inv X pins σ H s) (h : SqL X.K H a xs) : xs.length ≤ sizeLine ∧ Gathers X s (.ref a) xs := by
  have ⟨us, r, ⟨o, n, at_a, is_list, _, data⟩, few⟩ := I.list h
  refine ⟨few, fun R go => wpAny_collect_seq a (.inl rfl) at_a is_list data (fun h' grown => ?_) ?_⟩
  · rw [List.toList_toArray]
    exact go us h' s.toks r grown
  · rw [List.size_toArray]
    exact r.length ▸ few
/-- a value that is an object's name, seen as ours -/
def asOurs : Value → V
  | .ref a => .ref a
  | _ => .non
/-- sorted(xs, reverse=b) of a list of pairs of ints -/
def rSortedPK (K : PySem.W.Frag) (b : Bool) : List V → List V → Hp → VK → Prop := fun vs zs H Q => ∃ (a : Addr) (xs : List V) (k : V → Int × Int), vs = [V.ref a] ∧ zs = [.bl b] ∧ SqL K H a xs ∧ (∀ x ∈ xs, ∃ t, x = V.ref t ∧ H t = some (.tup [.int (k x).1, .int (k x).2])) ∧
  ∀ ys p, SrtO.Srtd (ltP k) ys → ys.Perm xs → H p = none → Q (.ref p) (upd H p (.lst (if b = true then ys.reverse else ys)))
theorem cr_sortedPK {b : Bool} (_ : X.calm = true) : CallRK X (.builtin "sorted") [Str.ofString "reverse"] (rSortedPK X.K b) := by
  rintro pins s σ H _ _ us ws Q I one by_kw ⟨a, xs, k, rfl, rfl, here, pairs, q⟩
  obtain ⟨v, w, rfl, rfl, rfl, rfl⟩ : ∃ v w, us = [v] ∧ ws = [w] ∧ v = .ref a ∧ w = .bool b := by
    cases one with | cons e1 t1 => cases t1; cases by_kw with | cons e2 t2 => cases t2; exact ⟨_, _, rfl, rfl, e1, e2⟩
  have ⟨few, walk⟩ := gathers_list I here
  have known : ∀ {x : V} {u : Value}, x ∈ xs → RelV x u → asOurs u = x := fun {x u} m e => by
    have ⟨t, ex, _⟩ := pairs x m
    subst ex
    exact congrArg asOurs e
  refine sorted_gathered I few walk (SrtO.swo_lex fun u => k (asOurs u)) (fun us s' l two r J free => ?_) fun P l hP perm up free => ?_
  · refine SrtO.pairs_sortableO (k := fun u => k (asOurs u)) (Nat.lt_of_lt_of_le Nat.two_pos two) (fun u m => ?_) fun o at_l => ?_
    · obtain ⟨P, hP, rfl, rfl⟩ := partners_of r
      have ⟨⟨x, u⟩, mp, eu⟩ := List.mem_map.mp m
      subst eu
      have mx := List.mem_map_of_mem (f := Prod.fst) mp
      have ⟨t, ex, ht⟩ := pairs x mx
      have apart : t ≠ l := fun e => by rw [e, free] at ht; cases ht
      have ⟨_, vs, rv, o, at_t, is_tup, n, data⟩ := J.hok t _ ((upd_ne apart).trans ht)
      rw [known mx (hP _ mp)]
      cases rv with | cons e1 rv => cases rv with | cons e2 rv => cases rv; exact e1.elim fun t1 e1 => e2.elim fun t2 e2 => ⟨t, o, t1, t2, n, by have := hP _ mp; rw [show (x, u).1 = V.ref t from ex] at this; exact this, at_t, is_tup, by rw [data, e1, e2]⟩
    · have ⟨_, vs, e, _, there⟩ := J.hok l _ upd_same
      rw [there] at at_l
      cases at_l
      have differ : Value.type "list" ≠ Value.type "tuple" := by decide
      exact differ
  · have sorts : SrtO.Srtd (ltP k) (P.map Prod.fst) := by
      rw [SrtO.Srtd, List.pairwise_map] at up ⊢
      refine up.imp_of_mem fun {p p'} m m' h => ?_
      have on := fun {p : V × Value} (m : p ∈ P) => known (perm.mem_iff.mp (List.mem_map_of_mem (f := Prod.fst) m)) (hP p m)
      rw [on m, on m'] at h
      exact h
    exact q _ l sorts perm free
/-- sorted by age and patience, turned round: from the eldest on -/
theorem sorted_down {k : V → Int × Int} {ys xs : List V} {gs : List (Int × Int)} (f : Fit gs) (hx : xs.map k = gs) (hs : SrtO.Srtd (ltP k) ys) (hb : ys.Perm xs) : ys.reverse.map k = byAge gs := by
  refine byAge_of f ?_ ?_
  · rw [← hx]
    exact ((List.reverse_perm ys).trans hb).map k
  · rw [List.map_reverse, List.pairwise_reverse, List.pairwise_map]
    refine hs.imp fun {a b} h => ?_
    have h' : SrtO.lexB (k b) (k a) = false := h
    rw [SrtO.lexB_no] at h'
    omega
end
end El
namespace El
open PySem PySem.Spec PyProof.Rows L2
section
variable {X : Cx}
/-- len of a set of ints -/
theorem call_lenSI : CallR X (.builtin "len") (fun xs H Q => ∃ (a : Addr) (S : Int → Bool) (n : Nat), xs = [V.ref a] ∧ H a = some (SetO X.w a S n) ∧ n ≤ 100000 ∧ Q (.int n) H) := by
  intro pins s σ H xs us Q I r h
  obtain ⟨a, S, n, rfl, ha, hn, q⟩ := h
  rw [Vals.ref1 r]
  obtain ⟨o, es, ep, t, ho, hex, hd, _, _, _, hf, he⟩ := (setO_get I ha).setOf (P := X.prog)
  refine call_len_set ho hex hd hf (by rw [he]; exact Int.lt_of_le_of_lt (show (n : Int) ≤ 100000 by omega) (by decide)) ⟨.int n, H, I.tok _, ⟨_, by rw [he]⟩, q⟩
end
theorem piListK {X : Cx} {tg l : Expr} {tl : TE} (K : PySem.W.Frag) (hl : PE X l tl) (e : X.K = K := by rfl) : PI X tg l (iList K tl) := by
  subst e
  exact pi_list hl
/-- the outer walk of a comprehension with two fors, and the inner one -/
theorem out_it {J : It} {n : Nat} {G : Hp → Prop} {Y : Nat → Hp → V → Hp → Prop} (w : Walk J n G Y) {Qd : Hp → Prop} {H0 : Hp} {bd : (Hp → Prop) → V → Hp → Prop} (Pv : Nat → Hp → Prop) (h0 : Pv 0 H0) (hG : ∀ i H, i ≤ n → Pv i H → G H)
    (hs : ∀ i x H H', i < n → Pv i H → Y i H x H' → bd (Pv (i + 1)) x H') (hd : ∀ H, Pv n H → Qd H) :
    ∃ W : Nat → Nat → Hp → Prop, (∃ m, W 0 m H0) ∧ ∀ i m H, W i m H → (J.stop i H ∧ Qd H) ∨ (J.go i H ∧ ∃ Nx : Hp → Prop, (∀ H', Nx H' → ∃ m', m' < m ∧ W (i + 1) m' H') ∧ ∀ x H', J.yld i H x H' → bd Nx x H') := by
  refine ⟨fun i m H => m = n - i ∧ i ≤ n ∧ Pv i H, ⟨n, by simp, Nat.zero_le _, h0⟩, ?_⟩
  rintro i m H ⟨rfl, hi, p⟩
  have q := hG i H hi p
  by_cases hlt : i < n
  · exact .inr ⟨w.goes i H hlt q, Pv (i + 1), fun H' p' => ⟨n - (i + 1), by omega, rfl, hlt, p'⟩, fun x H' y => hs i x H H' hlt p (w.yields i H x H' hlt q y)⟩
  · have e : i = n := by omega
    subst e
    exact .inl ⟨w.stops H q, hd H p⟩
theorem cut_from (xs : List V) (j : Nat) : cutV xs (some (j : Int)) none = xs.drop j := by
  unfold cutV
  rw [HT.sIx_none, HT.sIx_nat]
  show (List.drop (min j xs.length) xs).take (xs.length - min j xs.length) = _
  by_cases h : j ≤ xs.length
  · rw [Nat.min_eq_left h, List.take_of_length_le (by rw [List.length_drop]; omega)]
  · rw [Nat.min_eq_right (by omega), List.drop_of_length_le (Nat.le_refl _), List.drop_of_length_le (show xs.length ≤ j by omega), List.take_nil]
/-- a list of lists of ints, read alone -/
structure RdAt (H : Hp) (o : Addr) (ts : List Addr) (rs : List (List Int)) : Prop where
  top : H o = some (.lst (ts.map V.ref))
  len : ts.length = rs.length
  at' : ∀ (i : Nat) (t : Addr) (r : List Int), ts[i]? = some t → rs[i]? = some r → H t = some (.lst (r.map V.int))
theorem RdAt.same {H H' : Hp} {a : Addr} {ts : List Addr} {rs : List (List Int)} (h : RdAt H a ts rs) (k : Same H H') : RdAt H' a ts rs :=
  ⟨k _ _ h.top, h.len, fun i t g e f => k _ _ (h.at' i t g e f)⟩
theorem RdAt.seq {K : PySem.W.Frag} {H : Hp} {a : Addr} {ts : List Addr} {rs : List (List Int)} (h : RdAt H a ts rs) : SqL K H a (ts.map V.ref) := SqL.of h.top
theorem RmsAt.rd {H : Hp} {B : Addr → Prop} {a : Addr} {ts : List Addr} {rs : List (List Int)} (h : RmsAt H B a ts rs) : RdAt H a ts rs := ⟨h.top, h.len, h.at'⟩
theorem RdAt.get {H : Hp} {a : Addr} {ts : List Addr} {rs : List (List Int)} (h : RdAt H a ts rs) {i : Nat} {x : V} (e : (ts.map V.ref)[i]? = some x) : ∃ t r, x = .ref t ∧ ts[i]? = some t ∧ rs[i]? = some r ∧ H t = some (.lst (r.map V.int)) := by
  obtain ⟨t, e1, rfl⟩ := refs_at e
  have hi := at_lt e1
  rw [h.len] at hi
  obtain ⟨g, e2⟩ := at_some hi
  exact ⟨t, g, rfl, e1, e2, h.at' i t g e1 e2⟩
theorem pks_get {gs : List (Int × Int)} (nd : (gs.map (·.1)).Nodup) {a : Int} (m : a ∈ gs.map (·.1)) : valV (pks gs) (Sum.inl a) = some (.int (pof gs a)) := by
  obtain ⟨g, hg, rfl⟩ := List.mem_map.mp m
  rw [pks_some nd hg, pof_is nd hg]
theorem dget_pof {H : Hp} {d : Addr} {gs : List (Int × Int)} (h : H d = some (.dK (pks gs))) (nd : (gs.map (·.1)).Nodup) {a : Int} (m : a ∈ gs.map (·.1)) : DGet H d (.int a) (some (.int (pof gs a))) := by
  have z := DGet.k (k := Sum.inl a) h
  rw [pks_get nd m] at z
  exact z
theorem take_snoc_flat {rs : List (List Int)} {i : Nat} {r : List Int} (e : rs[i]? = some r) : (rs.take (i + 1)).flatten = (rs.take i).flatten ++ r := by
  rw [take_snoc e, List.flatten_append, List.flatten_cons, List.flatten_nil, List.append_nil]
theorem flat_split {rs : List (List Int)} {i j : Nat} {r : List Int} {a : Int} (nd : rs.flatten.Nodup) (e : rs[i]? = some r) (e2 : r[j]? = some a) : a ∉ (rs.take i).flatten ++ r.take j := by
  have h1 : rs.flatten = (rs.take i).flatten ++ (r ++ (rs.drop (i + 1)).flatten) := by
    have hi := at_lt e
    have h2 : rs = rs.take i ++ r :: rs.drop (i + 1) := by
      have := List.getElem_cons_drop (as := rs) (i := i) hi
      rw [List.getElem?_eq_getElem hi] at e
      rw [Option.some.inj e] at this
      rw [this, List.take_append_drop]
    rw [congrArg List.flatten h2, List.flatten_append, List.flatten_cons]
  have h3 : r = r.take j ++ a :: r.drop (j + 1) := by
    have hj := at_lt e2
    have := List.getElem_cons_drop (as := r) (i := j) hj
    rw [List.getElem?_eq_getElem hj] at e2
    rw [Option.some.inj e2] at this
    rw [this, List.take_append_drop]
  rw [h1] at nd
  generalize (rs.take i).flatten = x at nd ⊢
  generalize (rs.drop (i + 1)).flatten = y at nd
  rw [h3] at nd
  obtain ⟨_, n2, n3⟩ := List.nodup_append.mp nd
  intro m
  rcases List.mem_append.mp m with m | m
  · exact n3 a m a (List.mem_append_left _ (List.mem_append_right _ List.mem_cons_self)) rfl
  · obtain ⟨n4, _, _⟩ := List.nodup_append.mp n2
    obtain ⟨_, _, n7⟩ := List.nodup_append.mp n4
    exact n7 a m a List.mem_cons_self rfl
theorem flat_mem {rs : List (List Int)} {i j : Nat} {r : List Int} {a : Int} (e : rs[i]? = some r) (e2 : r[j]? = some a) : a ∈ rs.flatten :=
  List.mem_flatten.mpr ⟨r, List.mem_of_getElem? e, List.mem_of_getElem? e2⟩
end El
namespace El
open PySem PySem.Spec PyProof.Rows L2
section
variable {X : Cx}
theorem ptTruthK {a : Expr} {ta : TE} (K : PySem.W.Frag) (ha : PE X a ta) (he : ∀ whole, isTrue a X.env whole = (do let v ← whole; standAt a.pos; holding [v] (truthy v))) (e : X.K = K := by rfl) :
    PT X a (tTru K ta) := by
  subst e
  exact pt_truth ha he
/-! ### xs[::s], s 1 or -1 -/
def tStepL (K : PySem.W.Frag) (te ts : TE) : TE := fun σ H Q => te σ H fun x H1 => ts σ H1 fun y H2 => ∃ c, y = .int c ∧ ∃ a xs, x = .ref a ∧ (c = 1 ∨ c = -1) ∧ SqL K H2 a xs ∧ ∀ p, H2 p = none → Q (.ref p) (upd H2 p (.lst (if c = 1 then xs else xs.reverse)))
/-- what such a cut picks -/
theorem pick_way (us : List Value) {c : Int} (h : c = 1 ∨ c = -1) : slicePick us.toArray none none (some c) = (if c = 1 then us else us.reverse).toArray := by
  rcases h with rfl | rfl
  · show slicePick us.toArray none none none = _
    rw [slicePick_cut, HT.sIx_none, HT.sIx_none, List.drop_zero, Nat.sub_zero, List.take_length]
    rfl
  · exact PySem.W.krv_pick us.toArray
/-- a cut lies there that names its step alone -/
def StepAt (s : Shared) (i : Value) (c : Int) : Prop := ∃ p u, i = .ref p ∧ s.heap.IsSliceOf p .none .none (.int c u)
theorem step_made {st : Expr} {ts : TE} {p : Pos} {pins : List (Addr × Obj)} {σ : L2.St} {H : Hp} {s : Shared} {R : Value → Shared → Prop} {D : Int → Hp → Prop} (hs : PE X st ts) (I : Inv X pins σ H s)
    (h : ts σ H fun y H' => ∃ c, y = .int c ∧ D c H') (go : ∀ c H' i s', Inv X pins σ H' s' → StepAt s' i c → D c H' → R i s') : wpAny (model X.prog X.w) X.A (eval (.Slice none none (some st) p) X.env) R X.xe s := by
  refine wpAny_Slice (wpAny_pure (wpAny_pure (thn (hs.run pins s σ H _ I h) ?_)))
  rintro _ s' ⟨_, H', J, e, c, rfl, d⟩
  obtain ⟨u, rfl⟩ : ∃ u, _ = Value.int c u := e
  exact go c H' _ _ (J.kept (t' := s'.toks) fun _ _ => Heap.get?_push_of_some _) ⟨_, u, rfl, .new ..⟩ d
theorem list_cut {pins : List (Addr × Obj)} {σ : L2.St} {H : Hp} {s : Shared} {Q : VK} {a : Addr} {xs : List V} {i : Value} {c : Int} (I : Inv X pins σ H s) (here : SqL X.K H a xs) (cut : StepAt s i c) (h : c = 1 ∨ c = -1)
    (q : ∀ p, H p = none → Q (.ref p) (upd H p (.lst (if c = 1 then xs else xs.reverse)))) : wpAny (model X.prog X.w) X.A (getItem (.ref a) i) (EP X pins σ Q) X.xe s := by
  have ⟨us, r, at_a, few⟩ := I.list here
  have ⟨_, _, e, at_i⟩ := cut
  subst e
  have fits : us.toArray.size ≤ sizeLine := Nat.le_trans (Nat.le_of_eq (us.size_toArray.trans r.length.symm)) few
  have turned : Vals (if c = 1 then xs else xs.reverse) (if c = 1 then us else us.reverse) := by
    split
    · exact r
    · exact r.reverse
  have same : (if c = 1 then xs else xs.reverse).length = xs.length := by
    split
    · rfl
    · exact xs.length_reverse
  refine wpAny_getItem_list_slice at_a.isList at_i .none .none (.int c _) (fun z => by rcases h with rfl | rfl <;> cases z) ?_ fits
  rw [pick_way us h]
  have J := I.laid (a := s.heap.objs.size) (o := .lst (if c = 1 then xs else xs.reverse)) (t' := s.toks) (fun _ _ => Heap.get?_push_of_some _) (Nat.le_refl _) ⟨same ▸ few, _, 0, turned, Heap.get?_push_size _ rfl⟩
  exact ⟨.ref _, _, J, rfl, q _ (I.hok.fresh (Nat.le_refl _))⟩
theorem pe_stepL {e st : Expr} {te ts : TE} {p3 pos : Pos} (he : PE X e te) (hs : PE X st ts) : PE X (.Subscript e (.Slice none none (some st) p3) pos) (tStepL X.K te ts) where
  run pins s σ H Q I h := by
    refine Subscript_ (thn (he.run pins s σ H _ I h) ?_)
    rintro v s1 ⟨x, H1, J1, r, more⟩
    refine step_made hs J1 more ?_
    rintro c H2 i s2 J2 cut ⟨a, xs, rfl, way, here, q⟩
    cases r
    have ⟨_, _, at_a, _⟩ := J2.list here
    exact tail_any (ops := [.ref a, i]) at_a.isList.typeIs PySem.slot_list_getitem.lookup (list_cut J2 here cut way q) (by have ⟨_, _, e, _⟩ := cut; subst e; with_unfolding_all rfl)
end
theorem mergeK_pks {gs : List (Int × Int)} (nd : (gs.map (·.1)).Nodup) : mergeK [] (pks gs) = pks gs := by
  suffices h : ∀ (n : Nat), n ≤ gs.length → mergeK [] (pks (gs.take n)) = pks (gs.take n) by
    have := h gs.length (Nat.le_refl _)
    rw [take_full] at this
    exact this
  intro n
  induction n with
  | zero =>
    intro _
    rw [List.take_zero]
    rfl
  | succ n ih =>
    intro hn
    obtain ⟨g, eg⟩ := at_some hn
    have ht : (gs.take n).map (·.1) = (gs.map (·.1)).take n := List.map_take
    have no : g.1 ∉ (gs.take n).map (·.1) := fun m => by
      rw [ht] at m
      have e : (gs.map (·.1))[n]? = some g.1 := by rw [List.getElem?_map, eg]; rfl
      obtain ⟨i, hi⟩ := List.mem_iff_getElem?.mp m
      rw [List.getElem?_take] at hi
      split at hi
      · have := nd_ix nd hi e
        omega
      · cases hi
    rw [take_snoc eg]
    unfold mergeK at ih ⊢
    rw [pks_snoc, List.foldl_append, ih (by omega)]
    show putK (pks (gs.take n)) (Sum.inl g.1) (V.int g.2) = _
    rw [putK_snoc no, pks_snoc]
theorem GsAt.paired {K : PySem.W.Frag} {H : Hp} {B : Addr → Prop} {a : Addr} {ts : List Addr} {gs : List (Int × Int)} (h : GsAt H B a ts gs) : Paired (fun p kv => SqT K H p [kV kv.1, kv.2]) ts (pks gs) := by
  have hl := h.len
  have ha := h.at'
  clear h
  induction ts generalizing gs with
  | nil =>
    cases gs with
    | nil => exact .nil
    | cons g gs => simp at hl
  | cons t ts ih =>
    cases gs with
    | nil => simp at hl
    | cons g gs =>
      refine .cons (SqT.of (ha 0 t g rfl rfl)) (ih (gs := gs) (by simpa using hl) fun i t' g' e1 e2 => ha (i + 1) t' g' (by simpa using e1) (by simpa using e2))
theorem RdAt.of {H : Hp} {a : Addr} {ts : List Addr} {rs : List (List Int)} (h : RdAt H a ts rs) {i : Nat} {r : List Int} (e : rs[i]? = some r) : ∃ t, ts[i]? = some t ∧ H t = some (.lst (r.map V.int)) := by
  have hi := at_lt e
  rw [← h.len] at hi
  obtain ⟨t, e2⟩ := at_some hi
  exact ⟨t, e2, h.at' i t r e2 e⟩
theorem flat_in {rs : List (List Int)} {r : List Int} (m : r ∈ rs) : r.length ≤ rs.flatten.length := room_le_flat rs r m
theorem full_snoc {rs : List (List Int)} {i : Nat} {r : List Int} (e : rs[i]? = some r) : lensD (rs.take (i + 1)) = if r = [] then lensD (rs.take i) else lensD (rs.take i) ++ [(r.length : Int)] := by
  unfold lensD full
  rw [take_snoc e, List.filter_append]
  cases r with
  | nil => rw [List.filter_cons_of_neg (by simp), List.filter_nil, List.append_nil, if_pos rfl]
  | cons x r => rw [List.filter_cons_of_pos (by simp), List.filter_nil, List.map_append, if_neg (by simp)]; rfl
theorem lensD_len (rs : List (List Int)) : (lensD rs).length ≤ rs.length := by
  unfold lensD full
  rw [List.length_map]
  exact List.length_filter_le _ _
end El
namespace El
open PySem PySem.Spec PyProof.Rows L2
theorem map_erase {α β : Type} (f : α → β) : ∀ (l : List α) (k : Nat), (l.map f).eraseIdx k = (l.eraseIdx k).map f
  | [], _ => rfl
  | a :: l, 0 => rfl
  | a :: l, k + 1 => by
    show f a :: (l.map f).eraseIdx k = f a :: (l.eraseIdx k).map f
    rw [map_erase f l k]
theorem RdAt.keepOn {H H' : Hp} {a : Addr} {ts : List Addr} {rs : List (List Int)} (h : RdAt H a ts rs) (k : ∀ b u, (b = a ∨ b ∈ ts) → H b = some u → H' b = some u) : RdAt H' a ts rs :=
  ⟨k _ _ (.inl rfl) h.top, h.len, fun i t r e f => k _ _ (.inr (List.mem_of_getElem? e)) (h.at' i t r e f)⟩
theorem RdAt.pop {H : Hp} {o : Addr} {ts : List Addr} {rs : List (List Int)} (h : RdAt H o ts rs) (hn : o ∉ ts) (k : Nat) : RdAt (upd H o (.lst ((ts.map V.ref).eraseIdx k))) o (ts.eraseIdx k) (rs.eraseIdx k) := by
  refine ⟨by rw [upd_same, map_erase], ?_, fun i t r e1 e2 => ?_⟩
  · rw [List.length_eraseIdx, List.length_eraseIdx, h.len]
  · have nt : t ≠ o := fun z => hn (z ▸ List.mem_of_mem_eraseIdx (List.mem_of_getElem? e1))
    rw [upd_ne nt]
    rw [List.getElem?_eraseIdx] at e1 e2
    split at e1
    · rename_i hi
      rw [if_pos hi] at e2
      exact h.at' _ _ _ e1 e2
    · rename_i hi
      rw [if_neg hi] at e2
      exact h.at' _ _ _ e1 e2
theorem RdAt.cat {H : Hp} {o1 o2 c : Addr} {ts1 ts2 : List Addr} {rs1 rs2 : List (List Int)} (h1 : RdAt H o1 ts1 rs1) (h2 : RdAt H o2 ts2 rs2) (hc : H c = none) :
    RdAt (upd H c (.lst (ts1.map V.ref ++ ts2.map V.ref))) c (ts1 ++ ts2) (rs1 ++ rs2) := by
  refine ⟨by rw [upd_same, List.map_append], by rw [List.length_append, List.length_append, h1.len, h2.len], fun i t r e1 e2 => ?_⟩
  by_cases hi : i < ts1.length
  · rw [List.getElem?_append_left hi] at e1
    rw [List.getElem?_append_left (by rw [← h1.len]; exact hi)] at e2
    exact same_new hc _ _ (h1.at' i t r e1 e2)
  · rw [List.getElem?_append_right (by omega)] at e1
    rw [List.getElem?_append_right (by rw [← h1.len]; omega), ← h1.len] at e2
    exact same_new hc _ _ (h2.at' _ t r e1 e2)
theorem RdAt.there {H : Hp} {o : Addr} {ts : List Addr} {rs : List (List Int)} (h : RdAt H o ts rs) : ∀ t ∈ ts, ∃ x, H t = some x := fun t m => by
  obtain ⟨i, e⟩ := List.mem_iff_getElem?.mp m
  have hl := at_lt e
  rw [h.len] at hl
  obtain ⟨r, er⟩ := at_some hl
  exact ⟨_, h.at' i t r e er⟩
theorem flat_snoc (rs : List (List Int)) (r : List Int) : (rs ++ [r]).flatten = rs.flatten ++ r := by
  rw [List.flatten_append, List.flatten_cons, List.flatten_nil, List.append_nil]
theorem flat_erase {rs : List (List Int)} {k : Nat} {r : List Int} (e : rs[k]? = some r) : (r ++ (rs.eraseIdx k).flatten).Perm rs.flatten := (erase_perm e).flatten
theorem flat_nils (n : Nat) : (List.replicate n ([] : List Int)).flatten = [] := by
  induction n with
  | zero => rfl
  | succ n ih => rw [List.replicate_succ, List.flatten_cons, ih]; rfl
end El
namespace El
theorem flat_set : ∀ {rs : List (List Int)} {i : Nat} {r : List Int} (a : Int), rs[i]? = some r → (rs.set i (r ++ [a])).flatten.Perm (a :: rs.flatten)
  | [], _, _, _, e => by simp at e
  | s :: rs, 0, r, a, e => by
    obtain rfl : s = r := Option.some.inj e
    show ((s ++ [a]) :: rs).flatten.Perm _
    rw [List.flatten_cons, List.flatten_cons, List.append_assoc]
    exact List.perm_middle
  | s :: rs, i + 1, r, a, e => by
    show (s :: rs.set i (r ++ [a])).flatten.Perm _
    rw [List.flatten_cons, List.flatten_cons]
    exact ((flat_set a (by simpa using e)).append_left s).trans List.perm_middle
/-- the k-th one fuller, as its parts -/
theorem parts_set {α : Type} {rs : List α} {k : Nat} {r x : α} (e : rs[k]? = some r) : rs.take k ++ [x] ++ rs.drop (k + 1) = rs.set k x := by
  have hk := (List.getElem?_eq_some_iff.mp e).1
  rw [List.set_eq_take_append_cons_drop, if_pos hk, List.append_assoc]
  rfl
def fct : Nat → Nat
  | 0 => 1
  | n + 1 => fct n * (n + 1)
theorem fct_le : ∀ {i : Nat}, i ≤ 6 → fct i ≤ 720
  | 0, _ => by decide
  | 1, _ => by decide
  | 2, _ => by decide
  | 3, _ => by decide
  | 4, _ => by decide
  | 5, _ => by decide
  | 6, _ => by decide
  | n + 7, h => absurd h (by omega)
end El
namespace El
theorem flat_pop : ∀ {rs : List (List Int)} {i k : Nat} {r : List Int} {x : Int}, rs[i]? = some r → r[k]? = some x → (x :: (rs.set i (r.eraseIdx k)).flatten).Perm rs.flatten
  | [], _, _, _, _, e, _ => by simp at e
  | s :: rs, 0, k, r, x, e, e2 => by
    obtain rfl : s = r := Option.some.inj e
    show (x :: (s.eraseIdx k :: rs).flatten).Perm _
    rw [List.flatten_cons, List.flatten_cons]
    exact (erase_perm e2).append_right rs.flatten
  | s :: rs, i + 1, k, r, x, e, e2 => by
    show (x :: (s :: rs.set i (r.eraseIdx k)).flatten).Perm _
    rw [List.flatten_cons, List.flatten_cons]
    exact List.perm_middle.symm.trans ((flat_pop (by simpa using e) e2).append_left s)
end El
namespace El
open PySem PySem.Spec PyProof.Rows L2
/-- [f(x) for x in L], ints to ints -/
theorem lc_ints {K : PySem.W.Frag} {a D : Addr} {L : List Int} {i : Nat} {te : TE} {vs : List Nat} {σ : L2.St} {H1 : Hp} {Qd : Hp → Prop} (f : Int → Int) (hL : H1 a = some (.lst (L.map V.int))) (hD : H1 D = none) (hl : L.length ≤ 1000)
    (he : ∀ (k : Nat) (z : Int) (H' : Hp), L[k]? = some z → Same H1 H' → ∀ Q : VK, Q (.int (f z)) H' → te ((wipe σ vs).set i (some (.int z))) H' Q) (hw : ∀ z : Int, wipe ((wipe σ vs).set i (some (.int z))) vs = wipe σ vs)
    (hd : ∀ H2, Same H1 H2 → H2 D = some (.lst ((L.map f).map V.int)) → Qd H2) :
    ∃ W : Nat → Nat → Hp → Prop, (∃ m, W 0 m (upd H1 D (.lst []))) ∧ ∀ k m H, W k m H →
      ((Itl K a).stop k H ∧ Qd H) ∨ ((Itl K a).go k H ∧ ∃ Nx : Hp → Prop, (∀ H', Nx H' → ∃ m', m' < m ∧ W (k + 1) m' H') ∧ ∀ x H', (Itl K a).yld k H x H' → gName i x (wipe σ vs) H' fun σ2 H2 => wipe σ2 vs = wipe σ vs ∧ tYes σ2 H2 fun b H3 =>
        if b = true then te σ2 H3 fun y H4 => ∃ acc, H4 D = some (.lst acc) ∧ acc.length < sizeLine ∧ Nx (upd H4 D (.lst (acc ++ [y]))) else Nx H3) := by
  refine lc_it (walk_list (xs := L.map V.int)) (fun k H2 => Same H1 H2 ∧ H2 D = some (.lst (((L.take k).map f).map V.int))) ⟨same_new hD, upd_same⟩ (fun k H2 _ hW => ?_) (fun k x H2 H3 hk hW hY => ?_) (fun H2 hW => ?_)
  · exact SqL.of (hW.1 _ _ hL)
  · obtain ⟨sm, e⟩ := hW
    obtain ⟨rfl, hx⟩ := hY
    obtain ⟨z, ez, rfl⟩ := ints_at hx
    refine ⟨hw z, he k z H3 ez sm _ ⟨_, e, ils (by rw [List.length_map, List.length_map, List.length_take]; omega), Same.mut sm hD, ?_⟩⟩
    rw [upd_same, take_snoc ez, List.map_append, List.map_append]
    rfl
  · obtain ⟨sm, e⟩ := hW
    rw [List.length_map, take_full] at e
    exact hd H2 sm e
/-- [f(room) for room in rs], lists of ints to ints -/
theorem lc_rows {K : PySem.W.Frag} {a D : Addr} {us : List Addr} {rs : List (List Int)} {i : Nat} {te : TE} {vs : List Nat} {σ : L2.St} {H1 : Hp} {Qd : Hp → Prop} (f : List Int → Int) (hR : RdAt H1 a us rs) (hD : H1 D = none) (hl : rs.length ≤ 1000)
    (he : ∀ (t : Addr) (r : List Int) (H' : Hp), r ∈ rs → H' t = some (.lst (r.map V.int)) → ∀ Q : VK, Q (.int (f r)) H' → te ((wipe σ vs).set i (some (.ref t))) H' Q) (hw : ∀ t : Addr, wipe ((wipe σ vs).set i (some (.ref t))) vs = wipe σ vs)
    (hd : ∀ H2, Same H1 H2 → H2 D = some (.lst ((rs.map f).map V.int)) → Qd H2) :
    ∃ W : Nat → Nat → Hp → Prop, (∃ m, W 0 m (upd H1 D (.lst []))) ∧ ∀ k m H, W k m H →
      ((Itl K a).stop k H ∧ Qd H) ∨ ((Itl K a).go k H ∧ ∃ Nx : Hp → Prop, (∀ H', Nx H' → ∃ m', m' < m ∧ W (k + 1) m' H') ∧ ∀ x H', (Itl K a).yld k H x H' → gName i x (wipe σ vs) H' fun σ2 H2 => wipe σ2 vs = wipe σ vs ∧ tYes σ2 H2 fun b H3 =>
        if b = true then te σ2 H3 fun y H4 => ∃ acc, H4 D = some (.lst acc) ∧ acc.length < sizeLine ∧ Nx (upd H4 D (.lst (acc ++ [y]))) else Nx H3) := by
  refine lc_it (walk_list (xs := us.map V.ref)) (fun k H2 => Same H1 H2 ∧ H2 D = some (.lst (((rs.take k).map f).map V.int))) ⟨same_new hD, upd_same⟩ (fun k H2 _ hW => ?_) (fun k x H2 H3 hk hW hY => ?_) (fun H2 hW => ?_)
  · exact (hR.same hW.1).seq
  · obtain ⟨sm, e⟩ := hW
    obtain ⟨rfl, hx⟩ := hY
    obtain ⟨t, r, rfl, _, er, et⟩ := (hR.same sm).get hx
    refine ⟨hw t, he t r H3 (List.mem_of_getElem? er) et _ ⟨_, e, ils (by rw [List.length_map, List.length_map, List.length_take]; omega), Same.mut sm hD, ?_⟩⟩
    rw [upd_same, take_snoc er, List.map_append, List.map_append]
    rfl
  · obtain ⟨sm, e⟩ := hW
    rw [List.length_map, hR.len, take_full] at e
    exact hd H2 sm e
end El
namespace El
open PySem PySem.Spec PyProof.Rows L2
/-- [f(a, b) for a, b in gs], pairs of ints to ints -/
theorem lc_prs {K : PySem.W.Frag} {B : Addr → Prop} {a D : Addr} {ts : List Addr} {gs : List (Int × Int)} {i j : Nat} {te : TE} {vs : List Nat} {σ : L2.St} {H1 : Hp} {Qd : Hp → Prop} (f : Int × Int → Int) (hG : GsAt H1 B a ts gs) (hD : H1 D = none) (hl : gs.length ≤ 1000)
    (he : ∀ (z : Int × Int) (H' : Hp), z ∈ gs → Same H1 H' → ∀ Q : VK, Q (.int (f z)) H' → te (((wipe σ vs).set i (some (.int z.1))).set j (some (.int z.2))) H' Q) (hw : ∀ z : Int × Int, wipe (((wipe σ vs).set i (some (.int z.1))).set j (some (.int z.2))) vs = wipe σ vs)
    (hd : ∀ H2, Same H1 H2 → H2 D = some (.lst ((gs.map f).map V.int)) → Qd H2) :
    ∃ W : Nat → Nat → Hp → Prop, (∃ m, W 0 m (upd H1 D (.lst []))) ∧ ∀ k m H, W k m H →
      ((Itl K a).stop k H ∧ Qd H) ∨ ((Itl K a).go k H ∧ ∃ Nx : Hp → Prop, (∀ H', Nx H' → ∃ m', m' < m ∧ W (k + 1) m' H') ∧ ∀ x H', (Itl K a).yld k H x H' → gTup K 2 (gCons (gName i) (gCons (gName j) gNil)) x (wipe σ vs) H' fun σ2 H2 => wipe σ2 vs = wipe σ vs ∧ tYes σ2 H2 fun b H3 =>
        if b = true then te σ2 H3 fun y H4 => ∃ acc, H4 D = some (.lst acc) ∧ acc.length < sizeLine ∧ Nx (upd H4 D (.lst (acc ++ [y]))) else Nx H3) := by
  refine lc_it (walk_list (xs := ts.map V.ref)) (fun k H2 => Same H1 H2 ∧ H2 D = some (.lst (((gs.take k).map f).map V.int))) ⟨same_new hD, upd_same⟩ (fun k H2 _ hW => ?_) (fun k x H2 H3 hk hW hY => ?_) (fun H2 hW => ?_)
  · exact (hG.same hW.1).seq
  · obtain ⟨sm, e⟩ := hW
    obtain ⟨rfl, hx⟩ := hY
    obtain ⟨t, z, rfl, ez, et⟩ := (hG.same sm).get hx
    refine ⟨t, _, rfl, SqT.of et, rfl, .int z.1, _, rfl, .int z.2, _, rfl, rfl, ?_⟩
    refine ⟨hw z, he z H3 (List.mem_of_getElem? ez) sm _ ⟨_, e, ils (by rw [List.length_map, List.length_map, List.length_take]; omega), Same.mut sm hD, ?_⟩⟩
    rw [upd_same, take_snoc ez, List.map_append, List.map_append]
    rfl
  · obtain ⟨sm, e⟩ := hW
    rw [List.length_map, hG.len, take_full] at e
    exact hd H2 sm e
theorem GsAt.top' {H : Hp} {B : Addr → Prop} {a : Addr} {ts : List Addr} {gs : List (Int × Int)} (h : GsAt H B a ts gs) {b : Addr} (e : H b = some (.lst (ts.map V.ref))) : GsAt H (fun _ => True) b ts gs := ⟨e, trivial, h.len, h.at', fun _ _ => trivial⟩
/-- a pair of a list of pairs, by its place -/
theorem GsAt.at_ {H : Hp} {B : Addr → Prop} {a : Addr} {ts : List Addr} {gs : List (Int × Int)} (h : GsAt H B a ts gs) {i : Nat} {g : Int × Int} (e : gs[i]? = some g) : ∃ t, (ts.map V.ref)[i]? = some (.ref t) ∧ H t = some (.tup [.int g.1, .int g.2]) := by
  have hl := at_lt e
  rw [← h.len] at hl
  obtain ⟨t, e2⟩ := at_some hl
  exact ⟨t, by rw [List.getElem?_map, e2]; rfl, h.at' i t g e2 e⟩
theorem pick2 {P : Int → Prop} {a b r : Int} (h0 : 0 ≤ r) (h1 : r < 2) (pa : P a) (pb : P b) : ∃ v : Int, atI [V.int a, .int b] r = some (.int v) ∧ P v := by
  obtain ⟨v, hv, mv⟩ := at_pick (xs := [V.int a, .int b]) h0 h1
  rcases List.mem_cons.mp mv with rfl | mv
  · exact ⟨_, hv, pa⟩
  · obtain rfl := List.mem_singleton.mp mv
    exact ⟨_, hv, pb⟩
theorem pick3 {P : Int → Prop} {a b c r : Int} (h0 : 0 ≤ r) (h1 : r < 3) (pa : P a) (pb : P b) (pc : P c) : ∃ v : Int, atI [V.int a, .int b, .int c] r = some (.int v) ∧ P v := by
  obtain ⟨v, hv, mv⟩ := at_pick (xs := [V.int a, .int b, .int c]) h0 h1
  rcases List.mem_cons.mp mv with rfl | mv
  · exact ⟨_, hv, pa⟩
  rcases List.mem_cons.mp mv with rfl | mv
  · exact ⟨_, hv, pb⟩
  · obtain rfl := List.mem_singleton.mp mv
    exact ⟨_, hv, pc⟩
theorem pick4 {P : Int → Prop} {a b c d r : Int} (h0 : 0 ≤ r) (h1 : r < 4) (pa : P a) (pb : P b) (pc : P c) (pd : P d) : ∃ v : Int, atI [V.int a, .int b, .int c, .int d] r = some (.int v) ∧ P v := by
  obtain ⟨v, hv, mv⟩ := at_pick (xs := [V.int a, .int b, .int c, .int d]) h0 h1
  rcases List.mem_cons.mp mv with rfl | mv
  · exact ⟨_, hv, pa⟩
  rcases List.mem_cons.mp mv with rfl | mv
  · exact ⟨_, hv, pb⟩
  rcases List.mem_cons.mp mv with rfl | mv
  · exact ⟨_, hv, pc⟩
  · obtain rfl := List.mem_singleton.mp mv
    exact ⟨_, hv, pd⟩
theorem pickL {P : Int → Prop} {L : List Int} {r : Int} (h0 : 0 ≤ r) (h1 : r < L.length) (p : ∀ x ∈ L, P x) : ∃ v : Int, atI (L.map V.int) r = some (.int v) ∧ P v := by
  obtain ⟨v, hv, mv⟩ := at_pick (xs := L.map V.int) h0 (by rw [List.length_map]; exact h1)
  obtain ⟨x, mx, rfl⟩ := List.mem_map.mp mv
  exact ⟨x, hv, p x mx⟩
/-- pairs that stand at these, whatever list tells them -/
structure Prs (H : Hp) (ts : List Addr) (gs : List (Int × Int)) : Prop where
  len : ts.length = gs.length
  at' : ∀ (i : Nat) (t : Addr) (g : Int × Int), ts[i]? = some t → gs[i]? = some g → H t = some (.tup [.int g.1, .int g.2])
theorem GsAt.pr {H : Hp} {B : Addr → Prop} {a : Addr} {ts : List Addr} {gs : List (Int × Int)} (h : GsAt H B a ts gs) : Prs H ts gs := ⟨h.len, h.at'⟩
theorem Prs.gs {H : Hp} {a : Addr} {ts : List Addr} {gs : List (Int × Int)} (h : Prs H ts gs) (e : H a = some (.lst (ts.map V.ref))) : GsAt H (fun _ => True) a ts gs := ⟨e, trivial, h.len, h.at', fun _ _ => trivial⟩
theorem Prs.same {H H' : Hp} {ts : List Addr} {gs : List (Int × Int)} (h : Prs H ts gs) (k : Same H H') : Prs H' ts gs := ⟨h.len, fun i t g e f => k _ _ (h.at' i t g e f)⟩
theorem Prs.nil {H : Hp} : Prs H [] [] := ⟨rfl, fun i t g e _ => by simp at e⟩
theorem Prs.cons {H : Hp} {t : Addr} {g : Int × Int} {ts : List Addr} {gs : List (Int × Int)} (e : H t = some (.tup [.int g.1, .int g.2])) (h : Prs H ts gs) : Prs H (t :: ts) (g :: gs) := by
  refine ⟨by rw [List.length_cons, List.length_cons, h.len], fun i u x e1 e2 => ?_⟩
  cases i with
  | zero =>
    obtain rfl : t = u := Option.some.inj e1
    obtain rfl : g = x := Option.some.inj e2
    exact e
  | succ i => exact h.at' i u x (by simpa using e1) (by simpa using e2)
theorem Prs.cat {H : Hp} {ts us : List Addr} {gs hs : List (Int × Int)} (h : Prs H ts gs) (k : Prs H us hs) : Prs H (ts ++ us) (gs ++ hs) := by
  refine ⟨by rw [List.length_append, List.length_append, h.len, k.len], fun i t r e1 e2 => ?_⟩
  by_cases hi : i < ts.length
  · rw [List.getElem?_append_left hi] at e1
    rw [List.getElem?_append_left (by rw [← h.len]; exact hi)] at e2
    exact h.at' i t r e1 e2
  · rw [List.getElem?_append_right (by omega)] at e1
    rw [List.getElem?_append_right (by rw [← h.len]; omega), ← h.len] at e2
    exact k.at' _ t r e1 e2
theorem Prs.take {H : Hp} {ts : List Addr} {gs : List (Int × Int)} (h : Prs H ts gs) (n : Nat) : Prs H (ts.take n) (gs.take n) := by
  refine ⟨by rw [List.length_take, List.length_take, h.len], fun i t r e1 e2 => ?_⟩
  rw [List.getElem?_take] at e1 e2
  split at e1
  · rename_i hi
    rw [if_pos hi] at e2
    exact h.at' i t r e1 e2
  · cases e1
theorem Prs.drop {H : Hp} {ts : List Addr} {gs : List (Int × Int)} (h : Prs H ts gs) (n : Nat) : Prs H (ts.drop n) (gs.drop n) := by
  refine ⟨by rw [List.length_drop, List.length_drop, h.len], fun i t r e1 e2 => ?_⟩
  rw [List.getElem?_drop] at e1 e2
  exact h.at' _ t r e1 e2
theorem cutFrom (xs : List V) (j : Nat) : cutV xs (some (j : Int)) none = xs.drop j := by
  unfold cutV
  rw [HT.sIx_none, HT.sIx_nat]
  show (List.drop (min j xs.length) xs).take (xs.length - min j xs.length) = _
  by_cases h : j ≤ xs.length
  · rw [Nat.min_eq_left h, List.take_of_length_le (by rw [List.length_drop]; omega)]
  · rw [Nat.min_eq_right (by omega), List.drop_of_length_le (Nat.le_refl _), List.drop_of_length_le (show xs.length ≤ j by omega), List.take_nil]
theorem iteX {c : Bool} {A B : Prop} (hc : c = false) (h : B) : if c = true then A else B := by
  rw [hc]
  exact iteF h
theorem nd_self (x : V) : (!decide (x = x)) = false := by rw [decide_eq_true rfl]; rfl
theorem log2_lt {x : Int} {k : Nat} (h0 : 0 ≤ x) (h1 : x < 2 ^ k) (hk : 0 < k) : x.natAbs.log2 < k := by
  by_cases h4 : x.natAbs = 0
  · rw [h4]; exact Nat.lt_of_le_of_lt (by decide) hk
  · refine (Nat.log2_lt h4).mpr ?_
    have : ((x.natAbs : Nat) : Int) < ((2 ^ k : Nat) : Int) := by
      rw [show ((x.natAbs : Nat) : Int) = x by omega]
      exact_mod_cast h1
    exact_mod_cast this
theorem part_at {gs : List (Int × Int)} {i : Nat} {g : Int × Int} (e : gs[i]? = some g) : gs = gs.take i ++ [g] ++ gs.drop (i + 1) := by
  have hi := at_lt e
  have h2 := List.getElem_cons_drop (as := gs) (i := i) hi
  rw [List.getElem?_eq_getElem hi] at e
  rw [Option.some.inj e] at h2
  rw [List.append_assoc]
  show gs = gs.take i ++ (g :: gs.drop (i + 1))
  rw [h2, List.take_append_drop]
theorem rg0 {i : Nat} {x : V} (h : x = V.int (0 + (i : Int))) : x = V.int (i : Int) := by
  rw [h, Int.zero_add]
end El
namespace El
open PySem PySem.Spec PyProof.Rows L2
section
variable {prog : Program} {w : World} {A : Around} {R : Result → Shared → Prop}
abbrev listObj (us : Array Value) (m : Nat) : Obj := { cls := .type "list", data := .seq us m }
/-- a sum of lists on its way: the walk stands at the i-th list, the lists before it are together in the one at T, which is told xs -/
structure Going (h0 h : Heap) (l I S T : Addr) (i : Nat) (xs : List V) : Prop where
  old : ∀ b o, h0.get? b = some o → h.get? b = some o
  iter : h.IsListIter I l i
  newI : h0.objs.size ≤ I
  newS : h0.objs.size ≤ S
  apart : I ≠ S
  tray : ∃ c, h.get? S = some (listObj #[.ref T] c)
  sum : ∃ us m, h.get? T = some (listObj us m) ∧ Vals xs us.toList
  off : T ≠ S ∧ T ≠ I
theorem Going.list {h0 h : Heap} {l I S T : Addr} {i : Nat} {xs : List V} {its : Array Value} (g : Going h0 h l I S T i xs) (hl : h0.IsList l its) : h.IsList l its :=
  let ⟨o, a, r⟩ := hl
  ⟨o, g.old l o a, r⟩
theorem one_fits {v : Value} : (#[v] : Array Value).size ≤ sizeLine := show 1 ≤ sizeLine by decide
theorem going_on (calm : A.handled = none) {s0 : Shared} {h0 : Heap} {l I S : Addr} {its : Array Value} (hl : h0.IsList l its) :
    ∀ (rest : List (List V)) (i : Nat) (h : Heap) (T : Addr) (xs : List V), Going h0 h l I S T i xs → i + rest.length = its.size → (xs ++ rest.flatten).length ≤ sizeLine →
    (∀ j r, rest[j]? = some r → ∃ u c m, its[i + j]? = some (.ref u) ∧ h0.get? u = some (listObj c m) ∧ Vals r c.toList) →
    (∀ h' T' us m, (∀ b o, h0.get? b = some o → h'.get? b = some o) → h'.get? T' = some (listObj us m) → Vals (xs ++ rest.flatten) us.toList → (rest = [] → T' = T) → (rest ≠ [] → h0.objs.size ≤ T') → R (.ok (.ret (.ref T'))) { s0 with heap := h' }) →
    codeAny (model prog w) A (.builtin "sum.loop" ⟨[.ref I, .ref S, rawInt 2, rawInt 0], []⟩) R { s0 with heap := h } := by
  intro rest
  induction rest with
  | nil =>
    intro i h T xs g here _ _ fin
    have ⟨c, at_S⟩ := g.tray
    have ⟨us, m, at_T, told⟩ := g.sum
    refine codeAny_builtin PySem.F.entry_sum_loop ?_
    rw [Around.under_plainId PySem.F.plain_sum_loop]
    refine wpAny_bind (wpAny_seqItems at_S rfl ?_)
    rw [show ((some #[Value.ref T]).getD #[])[0]? = some (Value.ref T) from rfl]
    dsimp only
    refine wpAny_bind (wpAny_tryCatch (wpAny_pyNext_list_end calm g.iter (g.list hl) (Array.getElem?_eq_none (Nat.le_of_eq here.symm)) fun h' grown => ?_))
    refine wpAny_pure (fin h' T us m (fun b o e => ?_) ?_ (by simpa using told) (fun _ => rfl) fun no => (no rfl).elim)
    · exact grown b o (Nat.ne_of_lt (Nat.lt_of_lt_of_le (Heap.lt_size e) g.newI)) (g.old b o e)
    · exact grown T _ g.off.2 at_T
  | cons r rest ih =>
    intro i h T xs g here small each fin
    have ⟨c, at_S⟩ := g.tray
    have ⟨us, m, at_T, told⟩ := g.sum
    have ⟨u, vs, n, at_i, at_u, for_r⟩ := each 0 r rfl
    refine codeAny_builtin PySem.F.entry_sum_loop ?_
    rw [Around.under_plainId PySem.F.plain_sum_loop]
    refine wpAny_bind (wpAny_seqItems at_S rfl ?_)
    rw [show ((some #[Value.ref T]).getD #[])[0]? = some (Value.ref T) from rfl]
    dsimp only
    refine wpAny_bind (wpAny_tryCatch (wpAny_pyNext_list_item g.iter (g.list hl) at_i fun h1 it1 but1 => ?_))
    dsimp only
    have S1 : h1.get? S = some (listObj #[.ref T] c) := (but1.2 S (Ne.symm g.apart)).trans at_S
    have T1 : h1.get? T = some (listObj us m) := (but1.2 T g.off.2).trans at_T
    have old1 : ∀ b o, h0.get? b = some o → h1.get? b = some o := fun b o e => (but1.2 b (Nat.ne_of_lt (Nat.lt_of_lt_of_le (Heap.lt_size e) g.newI))).trans (g.old b o e)
    have both : (xs ++ r).length = us.size + vs.size := by
      rw [(told.append for_r).length, List.length_append, Array.length_toList, Array.length_toList]
    have fits : us.size + vs.size ≤ sizeLine := by
      rw [List.flatten_cons, ← List.append_assoc, List.length_append] at small
      omega
    refine wpAny_bind (wpAny_attempt (wpAny_holding (PySem.P.add_list (s := { s0 with heap := h1 }) T1 (old1 u _ at_u) ?_ fits)))
    -- the new list, and the tray that holds it
    have mine : h1.objs.size ≠ S := (Nat.ne_of_lt (Heap.lt_size S1)).symm
    have S2 : (h1.push (listObj (us ++ vs) 0)).get? S = some (listObj #[.ref T] c) := Heap.get?_push_of_some _ S1
    obtain ⟨c3, S3⟩ : ∃ c3, ((h1.push (listObj (us ++ vs) 0)).update S (Obj.mapSeq fun _ => #[.ref h1.objs.size])).get? S = some (listObj #[.ref h1.objs.size] c3) := ⟨_, get?_update_seq S2 _⟩
    obtain ⟨c4, S4⟩ : ∃ c4, (((h1.push (listObj (us ++ vs) 0)).update S (Obj.mapSeq fun _ => #[.ref h1.objs.size])).update S (Obj.mapSeq fun _ => #[.ref h1.objs.size])).get? S = some (listObj #[.ref h1.objs.size] c4) := ⟨_, get?_update_seq S3 _⟩
    dsimp only
    refine wpAny_bind (wpAny_updateSeq S2 rfl (wpAny_bind (wpAny_letGo (wpAny_bind (wpAny_updateSeq S3 rfl ?_ one_fits (Nat.le_succ_of_le one_fits))))) one_fits (Nat.le_succ_of_le one_fits))
    generalize hh4 : ((h1.push (listObj (us ++ vs) 0)).update S (Obj.mapSeq fun _ => #[.ref h1.objs.size])).update S (Obj.mapSeq fun _ => #[.ref h1.objs.size]) = h4
    rw [hh4] at S4
    have keep : ∀ b o, b ≠ S → (h1.push (listObj (us ++ vs) 0)).get? b = some o → h4.get? b = some o := fun b o ne e => by
      rw [← hh4, Heap.get?_update_ne _ _ _ _ ne, Heap.get?_update_ne _ _ _ _ ne]
      exact e
    have far : ∀ {b o}, h0.get? b = some o → b ≠ S := fun e => Nat.ne_of_lt (Nat.lt_of_lt_of_le (Heap.lt_size e) g.newS)
    have next : Going h0 h4 l I S h1.objs.size (i + 1) (xs ++ r) := {
      old := fun b o e => keep b o (far e) (Heap.get?_push_of_some _ (old1 b o e))
      iter := it1.at fun o e => keep I o g.apart (Heap.get?_push_of_some _ e)
      newI := g.newI
      newS := g.newS
      apart := g.apart
      tray := ⟨c4, S4⟩
      sum := ⟨us ++ vs, 0, keep _ _ mine (Heap.get?_push_size _ rfl), by rw [Array.toList_append]; exact told.append for_r⟩
      off := ⟨mine, fun e => have ⟨_, at_I, _⟩ := it1; Nat.lt_irrefl _ (e ▸ Heap.lt_size at_I)⟩ }
    refine wpAny_pure ⟨plainId_quiet PySem.F.plain_sum_loop _, ?_⟩
    refine ih (i + 1) h4 _ _ next (by rw [← here, List.length_cons]; omega) (by rw [List.append_assoc]; exact small) (fun j r' e => ?_) fun h' T' ws k grown at_T' told' last new => ?_
    · rw [Nat.add_assoc, Nat.add_comm 1 j]
      exact each (j + 1) r' e
    · refine fin h' T' ws k grown at_T' (by rw [List.append_assoc] at told'; exact told') (fun no => nomatch no) fun _ => ?_
      cases rest with
      | nil => exact last rfl ▸ Nat.le_trans g.newS (Nat.le_of_lt (Heap.lt_size S1))
      | cons => exact new fun no => nomatch no
end
section
variable {X : Cx}
def rSumL (K : PySem.W.Frag) : List V → Hp → VK → Prop := fun vs H Q => ∃ (l e : Addr) (us : List Addr) (rs : List (List V)), vs = [.ref l, .ref e] ∧ SqL K H l (us.map V.ref) ∧ H e = some (.lst []) ∧ us.length = rs.length ∧
  (∀ (i : Nat) (u : Addr) (r : List V), us[i]? = some u → rs[i]? = some r → H u = some (.lst r)) ∧ rs.flatten.length ≤ sizeLine ∧ (rs = [] → Q (.ref e) H) ∧ (rs ≠ [] → ∀ p, H p = none → Q (.ref p) (upd H p (.lst rs.flatten)))
theorem sum_takes_two (a b : Value) : argsOk "sum" ⟨[a, b], []⟩ := by
  unfold argsOk
  kernel_rfl
theorem cr_sumL (K : PySem.W.Frag) (calm : X.calm = true) (eK : X.K = K := by rfl) : CallR X (.builtin "sum") (rSumL K) := by
  subst eK
  rintro pins s σ H _ ws Q I two ⟨l, e, us, rs, rfl, here, empty, same, lists, small, none_there, some_there⟩
  obtain ⟨v, w, rfl, rfl, rfl⟩ : ∃ v w, ws = [v, w] ∧ v = .ref l ∧ w = .ref e := by
    cases two with | cons e1 t1 => cases t1 with | cons e2 t2 => cases t2; exact ⟨_, _, rfl, e1, e2⟩
  have ⟨its, rl, at_l, _⟩ := I.list here
  have ⟨_, no, m, r0, _, at_e⟩ := I.lstM empty
  have lone : ∀ {T : String}, isSubtype (.type "list") (.type T) = pure false → ∀ {s1 : Shared} {E : Value → Shared → Prop}, s1.TypeIs (.ref e) "list" → ∀ {R : Bool → Shared → Prop}, R false s1 → wpAny (model X.prog X.w) X.A.in1 (isInstance (.ref e) (.type T)) R E s1 :=
    fun h _ _ ty _ go => wpAny_isInstance ty h go
  have at_e1 : ∀ o, (s.heap.push o).get? e = some (listObj no.toArray m) := fun o => Heap.get?_push_of_some o at_e
  refine call_function_tree PySem.F.kind_sum PySem.F.plain_sum PySem.F.entry_sum (sum_takes_two _ _) ?_
  refine wpAny_bind (wpAny_of_eq (show Builtin.Builtins.bindParams "sum" ["start"] 0 ⟨[.ref e], []⟩ = pure [some (.ref e)] from rfl) ?_)
  refine wpAny_bind (wpAny_pyIter_list at_l.isList ?_)
  dsimp only
  refine wpAny_bind (wpAny_pure ?_)
  dsimp only
  refine wpAny_bind ?_
  rw [List.forIn_cons]
  refine wpAny_bind (wpAny_bind (lone (by rw [isSubtype_type]; kernel_rfl) ⟨_, at_e1 _, rfl⟩ (wpAny_pure ?_)))
  dsimp only
  rw [List.forIn_cons]
  refine wpAny_bind (wpAny_bind (lone (by rw [isSubtype_type]; kernel_rfl) ⟨_, at_e1 _, rfl⟩ (wpAny_pure ?_)))
  dsimp only
  rw [List.forIn_cons]
  refine wpAny_bind (wpAny_bind (lone (by rw [isSubtype_type]; kernel_rfl) ⟨_, at_e1 _, rfl⟩ (wpAny_pure ?_)))
  dsimp only
  rw [List.forIn_nil]
  refine wpAny_pure ?_
  refine wpAny_bind (wpAny_newList ?_ one_fits)
  refine wpAny_pure ⟨plainId_quiet PySem.F.plain_sum_loop _, ?_⟩
  -- from here on the walk goes
  cases r0
  generalize hI : s.heap.push { cls := .type "list_iterator", data := .fields #[.ref l, .int 0 0] } = h1
  have I1 : h1.get? s.heap.objs.size = some { cls := .type "list_iterator", data := .fields #[.ref l, .int 0 0] } := hI ▸ Heap.get?_push_size _ rfl
  have two_new : s.heap.objs.size < h1.objs.size := Heap.lt_size I1
  have old : ∀ b o, s.heap.get? b = some o → h1.get? b = some o := fun b o h => hI ▸ Heap.get?_push_of_some _ h
  have at_e2 : h1.get? e = some (listObj #[] m) := old _ _ at_e
  have starts : Going s.heap (h1.push (listObj #[.ref e] 0)) l s.heap.objs.size h1.objs.size e 0 [] := {
    old := fun b o h => Heap.get?_push_of_some _ (old b o h)
    iter := ⟨_, Heap.get?_push_of_some _ I1, rfl, rfl⟩
    newI := Nat.le_refl _
    newS := Nat.le_of_lt two_new
    apart := Nat.ne_of_lt two_new
    tray := ⟨0, Heap.get?_push_size _ rfl⟩
    sum := ⟨#[], m, Heap.get?_push_of_some _ at_e2, .nil⟩
    off := ⟨Nat.ne_of_lt (Heap.lt_size at_e2), Nat.ne_of_lt (Heap.lt_size at_e)⟩ }
  refine going_on (s0 := s) (h0 := s.heap) (its := its.toArray) (I.ok.hd calm) at_l.isList rs 0 _ e [] starts ?_ small (fun j r hj => ?_) fun h' T us' m' grown at_T told last new => ?_
  · rw [Nat.zero_add, List.size_toArray, ← rl.length, List.length_map, same]
  · obtain ⟨u, hu⟩ : ∃ u, us[j]? = some u := ⟨_, List.getElem?_eq_getElem (same ▸ (List.getElem?_eq_some_iff.mp hj).1)⟩
    have ⟨v, hv, ev⟩ := rl.get (i := j) (x := .ref u) (by rw [List.getElem?_map, hu]; rfl)
    have ⟨_, vs, n, for_r, _, at_u⟩ := I.lstM (lists j u r hu hj)
    exact ⟨u, vs.toArray, n, by rw [Nat.zero_add, List.getElem?_toArray, hv]; exact congrArg some ev, at_u, for_r⟩
  · cases rs with
    | nil => exact ⟨.ref e, H, I.kept (t' := s.toks) grown, congrArg Value.ref (last rfl), none_there rfl⟩
    | cons r rs =>
      have some_lists : r :: rs ≠ [] := fun no => nomatch no
      exact ⟨.ref T, upd H T (.lst (r :: rs).flatten), I.laid (t' := s.toks) grown (new some_lists) ⟨small, us'.toList, m', told, at_T⟩, rfl, some_there some_lists T (I.hok.fresh (new some_lists))⟩
end
end El
namespace El
open PySem PySem.Spec PyProof.Rows L2
def but (A L : List Int) : List Int := A.filter fun x => !decide (x ∈ L)
theorem but_self (A : List Int) : but A A = [] := by
  unfold but
  rw [List.filter_eq_nil_iff]
  intro x m
  simp [m]
theorem but_len {A L : List Int} {B C : List Int} {m : Int} (e : A = B ++ m :: C) (h : ∀ x ∈ B ++ C, x ∈ L) : (but A L).length ≤ 1 := by
  subst e
  unfold but
  rw [List.filter_append, List.length_append]
  have hb : (B.filter fun x => !decide (x ∈ L)) = [] := by
    rw [List.filter_eq_nil_iff]
    intro x mx
    simp [h x (List.mem_append_left _ mx)]
  have hc : (C.filter fun x => !decide (x ∈ L)) = [] := by
    rw [List.filter_eq_nil_iff]
    intro x mx
    simp [h x (List.mem_append_right _ mx)]
  rw [hb, List.filter_cons]
  split
  · rw [List.length_cons, hc]
    exact Nat.le_refl _
  · rw [hc]
    exact Nat.zero_le _
def Clo (s b : List Int) : Prop := (but s b).length ≤ 1 ∧ (but b s).length ≤ 1
theorem Clo.symm {s b : List Int} (h : Clo s b) : Clo b s := ⟨h.2, h.1⟩
theorem Clo.same (s : List Int) : Clo s s := by
  unfold Clo
  rw [but_self]
  exact ⟨Nat.zero_le _, Nat.zero_le _⟩
theorem but_sub {A L : List Int} (h : ∀ x ∈ A, x ∈ L) : but A L = [] := by
  unfold but
  rw [List.filter_eq_nil_iff]
  intro x mx
  simp [h x mx]
theorem Plus.clo {s b : List Int} (h : Plus s b) : Clo s b := by
  obtain ⟨A, m, B, rfl, rfl⟩ := h
  refine ⟨?_, but_len rfl fun x mx => mx⟩
  rw [but_sub fun x mx => ?_]
  · exact Nat.zero_le _
  · rcases List.mem_append.mp mx with q | q
    · exact List.mem_append_left _ q
    · exact List.mem_append_right _ (List.mem_cons_of_mem _ q)
theorem Alike.clo {s b : List Int} (h : Alike s b) : Clo s b := by
  rcases h with rfl | ⟨A, m, B, g, C, rfl, rfl⟩
  · exact .same _
  · constructor
    · refine but_len (B := A ++ B) (m := g) (C := C) rfl fun x mx => ?_
      rcases List.mem_append.mp mx with q | q
      · rcases List.mem_append.mp q with q | q
        · exact List.mem_append_left _ (List.mem_append_left _ q)
        · exact List.mem_append_left _ (List.mem_append_right _ (List.mem_cons_of_mem _ q))
      · exact List.mem_append_right _ q
    · refine but_len (B := A) (m := m) (C := B ++ C) (by rw [List.append_assoc]; rfl) fun x mx => ?_
      rcases List.mem_append.mp mx with q | q
      · exact List.mem_append_left _ (List.mem_append_left _ q)
      · rcases List.mem_append.mp q with q | q
        · exact List.mem_append_left _ (List.mem_append_right _ q)
        · exact List.mem_append_right _ (List.mem_cons_of_mem _ q)
def Clos (s b : List (List Int)) : Prop := ∀ k, Clo (s.getD k []) (b.getD k [])
theorem Clos.symm {s b : List (List Int)} (h : Clos s b) : Clos b s := fun k => (h k).symm
theorem Near.clos {s b : List (List Int)} (h : Near s b) : Clos s b := by
  induction h with
  | new m =>
    intro k
    cases k with
    | zero => exact ⟨Nat.zero_le _, but_len (B := []) (C := []) (m := m) rfl fun x mx => by simp at mx⟩
    | succ k => exact .same _
  | @here s b hb rest =>
    intro k
    cases k with
    | zero => exact hb.clo
    | succ k => exact .same _
  | @skip s b ss bs hs r ih =>
    intro k
    cases k with
    | zero => exact hs.clo
    | succ k => exact ih k
/-! ### the sum of some lists, wherever it lies -/
def rSumS (K : PySem.W.Frag) : List V → Hp → VK → Prop := fun vs H Q => ∃ (l e : Addr) (us : List Addr) (rs : List (List V)), vs = [.ref l, .ref e] ∧ SqL K H l (us.map V.ref) ∧ H e = some (.lst []) ∧ us.length = rs.length ∧
  (∀ (i : Nat) (u : Addr) (r : List V), us[i]? = some u → rs[i]? = some r → H u = some (.lst r)) ∧ rs.flatten.length ≤ sizeLine ∧ ∀ T H', Same H H' → H' T = some (.lst rs.flatten) → Q (.ref T) H'
section
variable {X : Cx}
theorem cr_sumS (K : PySem.W.Frag) (hc : X.calm = true) (eK : X.K = K := by rfl) : CallR X (.builtin "sum") (rSumS K) := by
  intro pins s σ H vs us' Q I r h
  obtain ⟨l, e, us, rs, rfl, hs, he, hlen, hr, hz, q⟩ := h
  refine cr_sumL K hc eK pins s σ H _ us' Q I r ⟨l, e, us, rs, rfl, hs, he, hlen, hr, hz, fun z => ?_, fun _ p np => q p _ (same_new np) upd_same⟩
  subst z
  exact q e H (Same.refl H) he
end
theorem cut_one (xs : List V) (k : Nat) : cutV xs (some (k : Int)) (some ((k : Int) + 1)) = (xs.drop k).take 1 := by
  have e : ((k : Int) + 1) = ((k + 1 : Nat) : Int) := by omega
  rw [e]
  unfold cutV
  rw [HT.sIx_nat, HT.sIx_nat]
  by_cases h : k < xs.length
  · rw [Nat.min_eq_left (Nat.le_of_lt h), Nat.min_eq_left h]
    congr 1
    omega
  · have h1 : min k xs.length = xs.length := by omega
    rw [h1, List.drop_length, List.drop_eq_nil_of_le (by omega), List.take_nil, List.take_nil]
theorem drop_one {α : Type} (xs : List α) (k : Nat) (d : α) : (xs.drop k).take 1 = if k < xs.length then [xs.getD k d] else [] := by
  by_cases h : k < xs.length
  · rw [if_pos h, List.drop_eq_getElem_cons h, List.take_succ_cons, List.take_zero, List.getD_eq_getElem?_getD, List.getElem?_eq_getElem h]
    rfl
  · rw [if_neg h, List.drop_eq_nil_of_le (by omega), List.take_nil]
theorem one_flat (rs : List (List Int)) (k : Nat) : (((rs.drop k).take 1).map fun r => r.map V.int).flatten = (rs.getD k []).map V.int := by
  rw [drop_one rs k []]
  by_cases h : k < rs.length
  · rw [if_pos h]
    simp
  · rw [if_neg h, List.getD_eq_getElem?_getD, List.getElem?_eq_none (by omega)]
    rfl
end El
namespace El
open PySem PySem.Spec PyProof.Rows L2
def topS (i : Nat) : Stmt := PySem.Challenge.pw_elderinn_k06_whole_none_fuller.main.body.getD i (.Pass ⟨0, 0, 0, 0⟩)
end El
namespace El
open PySem PySem.Spec PyProof.Rows L2
/-- rooms of these guests at q, apart from m -/
def Good6 (C : Addr → Prop) (H : Hp) (m : Addr) (ns : List Int) (n : Nat) (q : Addr) : Prop := ∃ us rs, RdAt H q us rs ∧ rs.flatten.Perm ns ∧ rs.length ≤ n ∧ q ≠ m ∧ m ∉ us ∧ C q ∧ ∀ t ∈ us, C t
theorem Good6.keep {C : Addr → Prop} {H H' : Hp} {m q : Addr} {ns : List Int} {n : Nat} (h : Good6 C H m ns n q) (k : Kp (fun z => z ≠ m) H H') : Good6 C H' m ns n q := by
  obtain ⟨us, rs, h1, h2, h3, h4, h5, h6⟩ := h
  refine ⟨us, rs, h1.keepOn fun z x hz e => k z x ?_ e, h2, h3, h4, h5, h6⟩
  rcases hz with rfl | hz
  · exact h4
  · exact fun e => h5 (e ▸ hz)
theorem map_inj {α β : Type} {f : α → β} (hf : ∀ x y, f x = f y → x = y) : ∀ {l m : List α}, l.map f = m.map f → l = m
  | [], [], _ => rfl
  | [], _ :: _, e => by cases e
  | _ :: _, [], e => by cases e
  | x :: l, y :: m, e => by
    rw [List.map_cons, List.map_cons] at e
    rw [hf x y (List.cons.inj e).1, map_inj hf (List.cons.inj e).2]
theorem RdAt.uniq {H : Hp} {p : Addr} {us us' : List Addr} {rs rs' : List (List Int)} (h : RdAt H p us rs) (k : RdAt H p us' rs') : us = us' ∧ rs = rs' := by
  have e1 : us = us' := by
    have := h.top.symm.trans k.top
    injection this with this
    injection this with this
    exact map_inj (fun x y e => by injection e) this
  subst e1
  refine ⟨rfl, List.ext_getElem? fun i => ?_⟩
  by_cases hi : i < us.length
  · obtain ⟨t, et⟩ := at_some hi
    obtain ⟨r, er⟩ := at_some (show i < rs.length by rw [← h.len]; exact hi)
    obtain ⟨r', er'⟩ := at_some (show i < rs'.length by rw [← k.len]; exact hi)
    have := (h.at' i t r et er).symm.trans (k.at' i t r' et er')
    injection this with this
    injection this with this
    rw [er, er', map_inj (fun x y e => by injection e) this]
  · rw [List.getElem?_eq_none (by rw [← h.len]; omega), List.getElem?_eq_none (by rw [← k.len]; omega)]
/-- those rooms are among them -/
def Has (H : Hp) (m : Addr) (qs : List Addr) (rs : List (List Int)) : Prop := ∃ q ∈ qs, ∃ us, RdAt H q us rs ∧ q ≠ m ∧ m ∉ us
theorem Has.keep {H H' : Hp} {m : Addr} {qs qs' : List Addr} {rs : List (List Int)} (h : Has H m qs rs) (k : Kp (fun z => z ≠ m) H H') (hs : ∀ q ∈ qs, q ∈ qs') : Has H' m qs' rs := by
  obtain ⟨q, hq, us, h1, h2, h3⟩ := h
  refine ⟨q, hs q hq, us, h1.keepOn fun z x hz e => k z x ?_ e, h2, h3⟩
  rcases hz with rfl | hz
  · exact h2
  · exact fun e => h3 (e ▸ hz)
theorem RdAt.set6 {H : Hp} {q c : Addr} {us : List Addr} {rs : List (List Int)} {k : Nat} {r : List Int} (e : H q = some (.lst ((us.set k c).map V.ref))) (hl : us.length = rs.length) (hk : k < rs.length) (ec : H c = some (.lst (r.map V.int)))
    (h : ∀ (n : Nat) (t : Addr) (x : List Int), us[n]? = some t → rs[n]? = some x → H t = some (.lst (x.map V.int))) : RdAt H q (us.set k c) (rs.set k r) := ⟨e, by rw [List.length_set, List.length_set, hl], fun n t' r' e1 e2 => by
  by_cases hnk : n = k
  · subst hnk
    rw [List.getElem?_set_self (by rw [hl]; exact hk)] at e1
    rw [List.getElem?_set_self hk] at e2
    obtain rfl : c = t' := Option.some.inj e1
    obtain rfl : r = r' := Option.some.inj e2
    exact ec
  · rw [List.getElem?_set_ne (fun h => hnk h.symm)] at e1 e2
    exact h n t' r' e1 e2⟩
theorem RdAt.snoc6 {H : Hp} {q c : Addr} {us : List Addr} {rs : List (List Int)} {r : List Int} (e : H q = some (.lst ((us ++ [c]).map V.ref))) (hl : us.length = rs.length) (ec : H c = some (.lst (r.map V.int)))
    (h : ∀ (n : Nat) (t : Addr) (x : List Int), us[n]? = some t → rs[n]? = some x → H t = some (.lst (x.map V.int))) : RdAt H q (us ++ [c]) (rs ++ [r]) := ⟨e, by rw [List.length_append, List.length_append, hl]; rfl, fun n t' r' e1 e2 => by
  by_cases hn : n < us.length
  · rw [List.getElem?_append_left hn] at e1
    rw [List.getElem?_append_left (by rw [← hl]; exact hn)] at e2
    exact h n t' r' e1 e2
  · rw [List.getElem?_append_right (by omega)] at e1
    rw [List.getElem?_append_right (by rw [← hl]; omega), ← hl] at e2
    have hn0 : n - us.length = 0 := by
      have := at_lt e1
      rw [List.length_singleton] at this
      omega
    rw [hn0] at e1 e2
    obtain rfl : c = t' := Option.some.inj e1
    obtain rfl : r = r' := Option.some.inj e2
    exact ec⟩
theorem hasC_in (ok : List Int → Bool) : ∀ rs : List (List Int), firstIf ok rs < rs.length → ∃ r, rs[firstIf ok rs]? = some r
  | rs, h => ⟨_, List.getElem?_eq_getElem h⟩
section
variable {P : Program} {w : World} {K : PySem.W.Frag} {mg : Str → Option Value} {base : Heap}
abbrev s__law_partings : Stmt := topS 23
abbrev N__law_partings : List Str := ["ages", "found", "age", "longer", "line", "at"]
abbrev P__law_partings : List Str := ["ages"]
theorem sc__law_partings : FnScope N__law_partings P__law_partings (defScope s__law_partings) := ⟨rfl, rfl, rfl, by decide +kernel, rfl, by decide +kernel, by decide +kernel⟩
def sp__law_partings : Sp := fun vs H Q _ => ∃ (a : Addr) (ns : List Int) (c : Int → Nat), vs = [.ref a] ∧ H a = some (.lst (ns.map V.int)) ∧ ns.length ≤ 6 ∧
  ∀ H' o (ps : List Addr), Same H H' → H' o = some (.lst (ps.map V.ref)) → H o = none → ps.length ≤ 720 → (∀ p ∈ ps, ∃ us rs, RdAt H' p us rs ∧ rs.flatten.Perm ns ∧ rs.length ≤ 6 ∧ H p = none ∧ ∀ t ∈ us, H t = none) → (∃ p ∈ ps, ∃ us, RdAt H' p us (grp c ns)) → Q (.ref o) H'
theorem ok__law_partings (A : At K mg "_law_partings" P__law_partings s__law_partings) (B : Bi mg) : Df P w K mg base 1 "_law_partings" P__law_partings s__law_partings sp__law_partings := by
  refine A.df fun f fd F => F.ok sc__law_partings (fun vs H Q E h => ?_) (fun cdv AA outer s H vs Q E hr h => ?_)
  · obtain ⟨_, _, _, rfl, _⟩ := h
    rfl
  · obtain ⟨a, ns, col, rfl, ha, hl, q⟩ := h
    have nd := sc__law_partings.nd
    refine ⟨_, (pss_cons (ps_set (i := 1) nd rfl (.inl rfl) (pe_lst (pa_cons (pe_lst pa_nil) pa_nil)))
    (pss_cons (ps_for PassesOwn.never rfl (pi_list (pv 0)) (pg_name (i := 2) nd rfl (.inl rfl)) (pss_cons (ps_set (i := 3) nd rfl (.inl rfl) (pe_lst pa_nil)) (pss_cons (ps_for PassesOwn.never rfl (pi_list (pv 1)) (pg_name (i := 4) nd rfl (.inl rfl)) (pss_cons (ps_for PassesOwn.never rfl (pi_range1 (by rfl) B.range (pa_cons (pe_callB call_len_seq (by rfl) B.len PySem.boot_len (pa_cons (pv 4) pa_nil)) pa_nil)) (pg_name (i := 5) nd rfl (.inl rfl)) (pss_one (ps_expr (pe_bm PySem.F.plainAttrs_list PySem.F.slot_list_append PySem.F.type_list_append mt_append (pv 3) (pa_cons (pe_op op_cat (pe_op op_cat (pe_slice sl_list (pv 4) po_none (po_some (pv 5))) (pe_lst (pa_cons (pe_op op_cat (pe_ix ix_list (pv 4) (pv 5) (fun _ _ => rfl)) (pe_lst (pa_cons (pv 2) pa_nil))) pa_nil))) (pe_slice sl_list (pv 4) (po_some (pe_op op_add (pv 5) pe_int)) po_none)) pa_nil))))) (pss_one (ps_expr (pe_bm PySem.F.plainAttrs_list PySem.F.slot_list_append PySem.F.type_list_append mt_append (pv 3) (pa_cons (pe_op op_cat (pv 4) (pe_lst (pa_cons (pe_lst (pa_cons (pv 2) pa_nil)) pa_nil))) pa_nil)))))) (pss_one (ps_set (i := 1) nd rfl (.inl rfl) (pv 3))))))
    (pss_one (ps_ret (pv 1))))), ?_⟩
    -- found = [[]]
    refine ⟨Nat.zero_le _, fun e0 ne0 => ⟨(by show 1 ≤ sizeLine; decide), fun fo0 nfo0 => ?_⟩⟩
    have s1 : Same H (upd (upd H e0 (.lst [])) fo0 (.lst [.ref e0])) := Same.trans (same_new ne0) (same_new nfo0)
    have ee : upd (upd H e0 (.lst [])) fo0 (.lst [.ref e0]) e0 = some (.lst []) := (same_new nfo0) _ _ upd_same
    have ef : upd (upd H e0 (.lst [])) fo0 (.lst [.ref e0]) fo0 = some (.lst ([e0].map V.ref)) := upd_same
    have nf0 : H fo0 = none := (same_new ne0).free nfo0
    generalize upd (upd H e0 (.lst [])) fo0 (.lst [.ref e0]) = H1 at s1 ee ef ⊢
    refine ⟨.ref a, rfl, a, rfl, ⟨_, SqL.of (s1 _ _ ha)⟩, ?_⟩
    refine for_it (walk_list (xs := ns.map V.int)) (fun i σ H2 => ∃ (fo : Addr) (ps : List Addr) (y2 y3 y4 y5 : Option V), σ = [some (.ref a), some (.ref fo), y2, y3, y4, y5] ∧ Same H1 H2 ∧ H fo = none ∧ H2 fo = some (.lst (ps.map V.ref)) ∧ ps.length ≤ fct i ∧ (∀ p ∈ ps, ∃ us rs, RdAt H2 p us rs ∧ rs.flatten.Perm (ns.take i) ∧ rs.length ≤ i ∧ H p = none ∧ ∀ t ∈ us, H t = none) ∧ ∃ j0 p0 us0, ps[j0]? = some p0 ∧ RdAt H2 p0 us0 (grp col (ns.take i)))
      ⟨fo0, [e0], none, none, none, none, rfl, Same.refl _, nf0, ef, Nat.le_refl _, fun p m => ⟨[], [], by
        rw [List.mem_singleton.mp m]
        exact ⟨ee, rfl, fun _ _ _ e => by simp at e⟩, List.Perm.refl _, Nat.zero_le _, by rw [List.mem_singleton.mp m]; exact ne0, fun _ h => absurd h List.not_mem_nil⟩, 0, e0, [], rfl, ⟨ee, rfl, fun _ _ _ e => by simp at e⟩⟩ (fun i σ H2 _ hW => ?_) (fun i x σ H2 H3 hi hW hY => ?_) (fun σ H2 hW => ?_)
    · obtain ⟨_, _, _, _, _, _, _, sm, _⟩ := hW
      exact SqL.of (sm _ _ (s1 _ _ ha))
    · obtain ⟨fo, ps, y2, y3, y4, y5, rfl, sm, nfo, hfo, hpl, hps, j0, p0, us0, ej0, hR0⟩ := hW
      obtain ⟨rfl, hx⟩ := hY
      obtain ⟨z, eg, rfl⟩ := ints_at hx
      have hi6 : i < 6 := by
        have := at_lt eg
        omega
      have hfi : fct i ≤ 720 := fct_le (by omega)
      have hfi1 : fct (i + 1) ≤ 720 := fct_le (by omega)
      have et' : ns.take (i + 1) = ns.take i ++ [z] := take_snoc eg
      have eg1 : grp col (ns.take (i + 1)) = putIf (hasC col (col z)) z (grp col (ns.take i)) := by rw [et', grp_snoc]
      -- longer = []
      refine ⟨Nat.zero_le _, fun m nm => ?_⟩
      have sM : Same H3 (upd H3 m (.lst [])) := same_new nm
      have eM : upd H3 m (.lst []) m = some (.lst (([] : List Addr).map V.ref)) := upd_same
      have nm0 : H m = none := s1.free (sm.free nm)
      have hmf : fo ≠ m := ne_of_none hfo nm
      have hPs : ∀ p ∈ ps, Good6 (fun z => H z = none) (upd H3 m (.lst [])) m (ns.take i) i p := fun p hp => by
        obtain ⟨us, rs, h1, h2, h3, h4⟩ := hps p hp
        refine ⟨us, rs, h1.same sM, h2, h3, ne_of_none h1.top nm, fun hm => ?_, h4⟩
        obtain ⟨x, ex⟩ := h1.there m hm
        rw [nm] at ex
        cases ex
      have hfoM := sM _ _ hfo
      have hR0M := hR0.same sM
      have smM : Same H1 (upd H3 m (.lst [])) := Same.trans sm sM
      have nmS : H1 m = none := sm.free nm
      generalize upd H3 m (.lst []) = HM at eM hPs hfoM hR0M smM ⊢
      refine ⟨.ref fo, rfl, fo, rfl, ⟨_, SqL.of hfoM⟩, ?_⟩
      refine for_it (walk_list (xs := ps.map V.ref)) (fun j σ H4 => ∃ (qs : List Addr) (y4 y5 : Option V), σ = [some (.ref a), some (.ref fo), some (.int z), some (.ref m), y4, y5] ∧ Kp (fun z => z ≠ m) HM H4 ∧ H4 m = some (.lst (qs.map V.ref)) ∧ qs.length ≤ j * (i + 1) ∧ (∀ q ∈ qs, Good6 (fun z => H z = none) H4 m (ns.take (i + 1)) (i + 1) q) ∧ (j0 < j → Has H4 m qs (grp col (ns.take (i + 1)))))
        ⟨[], _, _, rfl, Kp.refl, eM, Nat.zero_le _, fun _ h => absurd h List.not_mem_nil, fun h => absurd h (Nat.not_lt_zero _)⟩ (fun j σ H4 _ hW => ?_) (fun j x σ H4 H5 hj hW hY => ?_) (fun σ H4 hW => ?_)
      · obtain ⟨_, _, _, _, kp, _⟩ := hW
        exact SqL.of (kp _ _ hmf hfoM)
      · obtain ⟨qs, y4, y5, rfl, kp, hm, hql, hqs, hhas⟩ := hW
        obtain ⟨rfl, hx⟩ := hY
        obtain ⟨p, epp, rfl⟩ := refs_at hx
        obtain ⟨us, rs, hR, hpm, hrl, hpm1, hmus, hCp, hCu⟩ := hPs p (List.mem_of_getElem? epp)
        have hrs0 : j0 = j → rs = grp col (ns.take i) := fun e => by
          subst e
          obtain rfl : p0 = p := Option.some.inj (ej0.symm.trans epp)
          exact (hR.uniq hR0M).2
        have keepP : ∀ {H' : Hp}, Kp (fun z => z ≠ m) HM H' → RdAt H' p us rs := fun k => hR.keepOn fun z x hz e => k z x (by
          rcases hz with rfl | hz
          · exact hpm1
          · exact fun e => hmus (e ▸ hz)) e
        have hjl : j < ps.length := at_lt epp
        have hjb : j * (i + 1) + (i + 1) ≤ 720 := by
          have h1 : (j + 1) * (i + 1) ≤ fct i * (i + 1) := Nat.mul_le_mul_right _ (by omega)
          rw [Nat.add_mul, Nat.one_mul] at h1
          have h2 : fct (i + 1) = fct i * (i + 1) := rfl
          omega
        have hrb : ∀ r ∈ rs, r.length ≤ 6 := fun r hr => by
          have h1 := room_le_flat rs r hr
          have h2 := hpm.length_eq
          rw [List.length_take] at h2
          omega
        have hR5 := keepP kp
        have hu6 : us.length ≤ 6 := by
          rw [hR.len]
          omega
        -- for at in range(len(line))
        refine ⟨.ref p, rfl, p, _, rfl, .inl hR5.seq, _, rfl, by omega, by rw [List.length_map, hR.len]; omega, ?_⟩
        have hrn : (((us.map V.ref).length : Nat) : Int).toNat = rs.length := by
          rw [List.length_map, hR.len]
          omega
        refine for_it walk_range (fun k σ H6 => ∃ (qs : List Addr) (y5 : Option V), σ = [some (.ref a), some (.ref fo), some (.int z), some (.ref m), some (.ref p), y5] ∧ Kp (fun z => z ≠ m) HM H6 ∧ H6 m = some (.lst (qs.map V.ref)) ∧ qs.length ≤ j * (i + 1) + k ∧ (∀ q ∈ qs, Good6 (fun z => H z = none) H6 m (ns.take (i + 1)) (i + 1) q) ∧ ((j0 < j ∨ (j0 = j ∧ firstIf (hasC col (col z)) rs < k)) → Has H6 m qs (grp col (ns.take (i + 1)))))
          ⟨qs, _, rfl, kp, hm, by omega, hqs, fun h => hhas (by omega)⟩ (fun _ _ _ _ _ => trivial) (fun k x σ H6 H7 hk hW hY => ?_) (fun σ H6 hW => ?_)
        · obtain ⟨qs, y5, rfl, kp, hm, hql, hqs, hhas⟩ := hW
          obtain ⟨rfl, hx⟩ := hY
          obtain rfl := rg0 hx
          have hk' : k < rs.length := by
            rw [← hrn]
            exact hk
          have hR7 := keepP kp
          obtain ⟨r, er⟩ := at_some hk'
          obtain ⟨t, et, etr⟩ := hR7.of er
          have etk : (us.map V.ref)[k]? = some (.ref t) := by
            rw [List.getElem?_map, et]
            rfl
          have hr6 := hrb r (List.mem_of_getElem? er)
          -- line[:at]
          refine ⟨.ref m, rfl, .inl ⟨rfl, _, SqL.of hm⟩, .ref p, rfl, .int (k : Int), rfl, _, rfl, p, _, rfl, hR7.seq, fun c1 n1 => ?_⟩
          rw [cut_to]
          have t1 := same_new (o := .lst ((us.map V.ref).take k)) n1
          have e1 := upd_same (H := H7) (a := c1) (o := .lst ((us.map V.ref).take k))
          generalize upd H7 c1 (.lst ((us.map V.ref).take k)) = G1 at t1 e1 ⊢
          -- line[at] + [age]
          refine ⟨.ref p, rfl, .int (k : Int), rfl, p, _, _, .ref t, rfl, rfl, (hR7.same t1).seq, atI_nat (j := k) etk, .int z, rfl, (by show 1 ≤ sizeLine; decide), fun l nl => ?_⟩
          have t2 := same_new (o := .lst [.int z]) nl
          have e2 := upd_same (H := G1) (a := l) (o := .lst [.int z])
          generalize upd G1 l (.lst [.int z]) = G2 at t2 e2 ⊢
          have t12 := t1.trans t2
          refine ⟨t, l, _, _, rfl, rfl, t12 _ _ etr, e2, ile (by rw [List.length_map]; show r.length + 1 ≤ 100000; omega), fun c nc => ?_⟩
          have t3 := same_new (o := .lst (r.map V.int ++ [.int z])) nc
          have ec : upd G2 c (.lst (r.map V.int ++ [.int z])) c = some (.lst ((r ++ [z]).map V.int)) := by
            rw [upd_same, List.map_append]
            rfl
          generalize upd G2 c (.lst (r.map V.int ++ [.int z])) = G3 at t3 ec ⊢
          have nc7 : H7 c = none := t12.free nc
          refine ⟨(by show 1 ≤ sizeLine; decide), fun l2 nl2 => ?_⟩
          have t4 := same_new (o := .lst [.ref c]) nl2
          have e4 := upd_same (H := G3) (a := l2) (o := .lst [.ref c])
          generalize upd G3 l2 (.lst [.ref c]) = G4 at t4 e4 ⊢
          have t14 := t12.trans (t3.trans t4)
          refine ⟨c1, l2, _, _, rfl, rfl, (t2.trans (t3.trans t4)) _ _ e1, e4, ile (by rw [List.length_take, List.length_map]; show min k us.length + 1 ≤ 100000; omega), fun c2 n2 => ?_⟩
          have t5 := same_new (o := .lst ((us.map V.ref).take k ++ [.ref c])) n2
          have e5 := upd_same (H := G4) (a := c2) (o := .lst ((us.map V.ref).take k ++ [.ref c]))
          generalize upd G4 c2 (.lst ((us.map V.ref).take k ++ [.ref c])) = G5 at t5 e5 ⊢
          refine ⟨.ref p, rfl, .int (k : Int), rfl, _, _, rfl, rfl, _, rfl, p, _, rfl, (hR7.same (t14.trans t5)).seq, fun c3 n3 => ?_⟩
          rw [show ((k : Int) + 1) = ((k + 1 : Nat) : Int) by omega, cut_from]
          have t6 := same_new (o := .lst ((us.map V.ref).drop (k + 1))) n3
          have e6 := upd_same (H := G5) (a := c3) (o := .lst ((us.map V.ref).drop (k + 1)))
          generalize upd G5 c3 (.lst ((us.map V.ref).drop (k + 1))) = G6 at t6 e6 ⊢
          refine ⟨c2, c3, _, _, rfl, rfl, t6 _ _ e5, e6, ile (by rw [List.length_append, List.length_take, List.length_drop, List.length_map]; show min k us.length + 1 + _ ≤ 100000; omega), fun c4 n4 => ?_⟩
          have t16 := t14.trans (t5.trans t6)
          have hset : (us.map V.ref).take k ++ [.ref c] ++ (us.map V.ref).drop (k + 1) = (us.set k c).map V.ref := by
            rw [parts_set etk]
            exact (List.map_set).symm
          rw [hset]
          have n47 : H7 c4 = none := t16.free n4
          have t7 := same_new (o := .lst ((us.set k c).map V.ref)) n4
          have e7 := upd_same (H := G6) (a := c4) (o := .lst ((us.set k c).map V.ref))
          generalize upd G6 c4 (.lst ((us.set k c).map V.ref)) = H9 at t7 e7 ⊢
          have s79 := t16.trans t7
          have hm9 := s79 _ _ hm
          have hcm : c ≠ m := fun e => by
            rw [e, hm] at nc7
            cases nc7
          have hc4m : c4 ≠ m := fun e => by
            rw [e, hm] at n47
            cases n47
          refine ⟨m, _, _, rfl, rfl, hm9, ils (by rw [List.length_map]; omega), ?_⟩
          have kp99 : Kp (fun z => z ≠ m) H9 (upd H9 m (.lst (qs.map V.ref ++ [.ref c4]))) := Kp.mut Kp.refl fun h => h rfl
          have kp9 : Kp (fun z => z ≠ m) HM (upd H9 m (.lst (qs.map V.ref ++ [.ref c4]))) := (kp.trans (.of s79)).trans kp99
          have hsetm : m ∉ us.set k c := fun hh => by
            rcases List.mem_or_eq_of_mem_set hh with hh | hh
            · exact hmus hh
            · exact hcm hh.symm
          have hRn : RdAt H9 c4 (us.set k c) (rs.set k (r ++ [z])) := RdAt.set6 e7 hR.len hk' ((t4.trans (t5.trans (t6.trans t7))) _ _ ec) fun n t' x e1 e2 => s79 _ _ (hR7.at' n t' x e1 e2)
          refine ⟨qs ++ [c4], _, rfl, kp9, by rw [upd_same, List.map_append]; rfl, by rw [List.length_append, List.length_singleton]; omega, fun q hq => ?_, fun h => ?_⟩
          · rcases List.mem_append.mp hq with hq | hq
            · exact (hqs q hq).keep ((Kp.of s79).trans kp99)
            · rw [List.mem_singleton.mp hq]
              refine Good6.keep ⟨us.set k c, rs.set k (r ++ [z]), hRn, ?_, by rw [List.length_set]; omega, hc4m, hsetm, s1.free (smM.free (kp.none hc4m n47)), fun t ht => (List.mem_or_eq_of_mem_set ht).elim (hCu t) fun e => e ▸ s1.free (smM.free (kp.none hcm nc7))⟩ kp99
              rw [et']
              exact (flat_set z er).trans ((List.Perm.cons _ hpm).trans (List.perm_append_comm (l₁ := [z])))
          · by_cases hold : j0 < j ∨ (j0 = j ∧ firstIf (hasC col (col z)) rs < k)
            · exact (hhas hold).keep ((Kp.of s79).trans kp99) fun q hq => List.mem_append_left _ hq
            · have hj0 : j0 = j ∧ firstIf (hasC col (col z)) rs = k := by omega
              refine Has.keep (qs := [c4]) ⟨c4, List.mem_singleton.mpr rfl, us.set k c, ?_, hc4m, hsetm⟩ kp99 fun q hq => List.mem_append_right _ hq
              rw [eg1, ← hrs0 hj0.1, putIf_at _ z rs r (by rw [hj0.2]; exact er), hj0.2]
              exact hRn
        · obtain ⟨qs, y5, rfl, kp, hm, hql, hqs, hhas⟩ := hW
          have hR7 := keepP kp
          rw [hrn] at hql hhas
          refine ⟨.ref m, rfl, .inl ⟨rfl, _, SqL.of hm⟩, .ref p, rfl, .int z, rfl, (by show 1 ≤ sizeLine; decide), fun l1 nl1 => ⟨(by show 1 ≤ sizeLine; decide), fun l2 nl2 => ?_⟩⟩
          have t1 := same_new (o := .lst [.int z]) nl1
          have e1 := upd_same (H := H6) (a := l1) (o := .lst [.int z])
          have n1 : H6 l1 = none := nl1
          generalize upd H6 l1 (.lst [.int z]) = G1 at t1 e1 nl2 ⊢
          have t2 := same_new (o := .lst [.ref l1]) nl2
          have e2 := upd_same (H := G1) (a := l2) (o := .lst [.ref l1])
          generalize upd G1 l2 (.lst [.ref l1]) = G2 at t2 e2 ⊢
          refine ⟨p, l2, _, _, rfl, rfl, (t1.trans t2) _ _ hR7.top, e2, ile (by rw [List.length_map]; show us.length + 1 ≤ 100000; omega), fun c4 n4 => ?_⟩
          have t3 := same_new (o := .lst (us.map V.ref ++ [.ref l1])) n4
          have e3 : upd G2 c4 (.lst (us.map V.ref ++ [.ref l1])) c4 = some (.lst ((us ++ [l1]).map V.ref)) := by
            rw [upd_same, List.map_append]
            rfl
          have n46 : H6 c4 = none := (t1.trans t2).free n4
          generalize upd G2 c4 (.lst (us.map V.ref ++ [.ref l1])) = H9 at t3 e3 ⊢
          have s79 := t1.trans (t2.trans t3)
          have hm9 := s79 _ _ hm
          have hl1m : l1 ≠ m := fun e => by
            rw [e, hm] at n1
            cases n1
          have hc4m : c4 ≠ m := fun e => by
            rw [e, hm] at n46
            cases n46
          refine ⟨m, _, _, rfl, rfl, hm9, ils (by rw [List.length_map]; omega), ?_⟩
          have kp99 : Kp (fun z => z ≠ m) H9 (upd H9 m (.lst (qs.map V.ref ++ [.ref c4]))) := Kp.mut Kp.refl fun h => h rfl
          have kp9 : Kp (fun z => z ≠ m) HM (upd H9 m (.lst (qs.map V.ref ++ [.ref c4]))) := (kp.trans (.of s79)).trans kp99
          have hl1u : m ∉ us ++ [l1] := fun hh => by
            rcases List.mem_append.mp hh with hh | hh
            · exact hmus hh
            · exact hl1m (List.mem_singleton.mp hh).symm
          have hRn : RdAt H9 c4 (us ++ [l1]) (rs ++ [[z]]) := RdAt.snoc6 e3 hR.len ((t2.trans t3) _ _ e1) fun n t' x e1 e2 => s79 _ _ (hR7.at' n t' x e1 e2)
          refine ⟨qs ++ [c4], _, _, rfl, kp9, by rw [upd_same, List.map_append]; rfl, by rw [List.length_append, List.length_singleton, Nat.add_mul, Nat.one_mul]; omega, fun q hq => ?_, fun h => ?_⟩
          · rcases List.mem_append.mp hq with hq | hq
            · exact (hqs q hq).keep ((Kp.of s79).trans kp99)
            · rw [List.mem_singleton.mp hq]
              refine Good6.keep ⟨us ++ [l1], rs ++ [[z]], hRn, ?_, by rw [List.length_append, List.length_singleton]; omega, hc4m, hl1u, s1.free (smM.free (kp.none hc4m n46)), fun t ht => (List.mem_append.mp ht).elim (hCu t) fun e => List.mem_singleton.mp e ▸ s1.free (smM.free (kp.none hl1m n1))⟩ kp99
              rw [flat_snoc, et']
              exact hpm.append_right _
          · by_cases hold : j0 < j ∨ (j0 = j ∧ firstIf (hasC col (col z)) rs < rs.length)
            · exact (hhas hold).keep ((Kp.of s79).trans kp99) fun q hq => List.mem_append_left _ hq
            · have hfb := firstIf_le (hasC col (col z)) rs
              have hj0 : j0 = j ∧ firstIf (hasC col (col z)) rs = rs.length := by omega
              refine Has.keep (qs := [c4]) ⟨c4, List.mem_singleton.mpr rfl, us ++ [l1], ?_, hc4m, hl1u⟩ kp99 fun q hq => List.mem_append_right _ hq
              rw [eg1, ← hrs0 hj0.1, putIf_new _ z rs hj0.2]
              exact hRn
      · obtain ⟨qs, y4, y5, rfl, kp, hm, hql, hqs, hhas⟩ := hW
        rw [List.length_map] at hql hhas
        obtain ⟨q0, hq0, us1, hR1', _, _⟩ := hhas (at_lt ej0)
        obtain ⟨j1, ej1⟩ := List.mem_iff_getElem?.mp hq0
        refine ⟨.ref m, rfl, ?_⟩
        refine ⟨m, qs, _, _, _, _, rfl, fun y x e => kp y x (ne_of_none e nmS) (smM y x e), nm0, hm, ?_, fun q hq => ?_, j1, q0, us1, ej1, hR1'⟩
        · have h1 : ps.length * (i + 1) ≤ fct i * (i + 1) := Nat.mul_le_mul_right _ hpl
          have h2 : fct (i + 1) = fct i * (i + 1) := rfl
          omega
        · obtain ⟨us, rs, h1, h2, h3, _, _, h4⟩ := hqs q hq
          exact ⟨us, rs, h1, h2, h3, h4⟩
    · obtain ⟨fo, ps, y2, y3, y4, y5, rfl, sm, nfo, hfo, hpl, hps, j0, p0, us0, ej0, hR0⟩ := hW
      rw [List.length_map, take_full] at hps hR0
      rw [List.length_map] at hpl
      refine ⟨.ref fo, rfl, q H2 fo ps (Same.trans s1 sm) hfo nfo (Nat.le_trans hpl (fct_le hl)) (fun p hp => ?_) ⟨p0, List.mem_of_getElem? ej0, us0, hR0⟩⟩
      obtain ⟨us, rs, h1, h2, h3, h4⟩ := hps p hp
      exact ⟨us, rs, h1, h2, by omega, h4⟩
end
end El
namespace El
open PySem PySem.Spec PyProof.Rows L2
section
variable {P : Program} {w : World} {K : PySem.W.Frag} {mg : Str → Option Value} {base : Heap}
abbrev s__law_in_peace : Stmt := topS 24
abbrev N__law_in_peace : List Str := ["some", "line", "room", "age", "bears", "one"]
abbrev P__law_in_peace : List Str := ["some", "line"]
theorem sc__law_in_peace : FnScope N__law_in_peace P__law_in_peace (defScope s__law_in_peace) := ⟨rfl, rfl, rfl, by decide +kernel, rfl, by decide +kernel, by decide +kernel⟩
def peaceB (gs : List (Int × Int)) (rs : List (List Int)) : Bool := decide (upsetOf gs rs 0 = none)
def sp__law_in_peace : Sp := fun vs H Q _ => ∃ (BB : Addr → Prop) (a o : Addr) (ts us : List Addr) (gs : List (Int × Int)) (rs : List (List Int)), vs = [.ref a, .ref o] ∧ GsAt H BB a ts gs ∧ Fit gs ∧ gs.length ≤ 1000 ∧ RdAt H o us rs ∧ rs.flatten.Perm (gs.map (·.1)) ∧
  ∀ H', Same H H' → Q (.bl (peaceB gs rs)) H'
theorem ok__law_in_peace (A : At K mg "_law_in_peace" P__law_in_peace s__law_in_peace) (B : Bi mg) : Df P w K mg base 1 "_law_in_peace" P__law_in_peace s__law_in_peace sp__law_in_peace := by
  refine A.df fun f fd F => F.ok sc__law_in_peace (fun vs H Q E h => ?_) (fun cdv AA outer s H vs Q E hr h => ?_)
  · obtain ⟨_, _, _, _, _, _, _, rfl, _⟩ := h
    rfl
  · obtain ⟨BB, a, o, ts, us, gs, rs, rfl, hG, hF, hl, hR, hp, q⟩ := h
    have nd := sc__law_in_peace.nd
    refine ⟨_, (pss_cons (ps_for PassesOwn.never rfl (pi_list (pv 1)) (pg_name (i := 2) nd rfl (.inl rfl)) (pss_one (ps_for PassesOwn.never rfl (pi_list (pv 0)) (pg_tup (by rfl) (pgs_cons (pg_name (i := 3) nd rfl (.inr rfl)) (pgs_cons (pg_name (i := 4) nd rfl (.inl rfl)) pgs_nil))) (pss_one (ps_if (PW.pt (pw_and (pt_cmpR op_in_seq (pv 3) (pv 2) (by rfl)) (pw_and1 (pt_cmpR op_gt (pe_callB call_len_seq (by rfl) B.len PySem.boot_len (pa_cons (pe_lc (own := [("one", 5)]) rfl nd (pi_list (pv 2)) (blkOk_by (N := N__law_in_peace) (sc := defScope s__law_in_peace) (by decide +kernel)) (fun _ _ _ _ _ => (pg_name (i := 5) nd rfl (.inl rfl))) (fun _ _ _ _ _ => (pts_one (pt_cmpR op_gt (pv 5) (pv 3) (nomark _)))) (fun _ _ _ _ _ => (pv 5))) pa_nil)) (pv 4) (nomark _))))) (pss_one (ps_ret pe_bl)) pss_nil)))))
    (pss_one (ps_ret pe_bl))), ?_⟩
    have hfn : rs.flatten.Nodup := (hp.nodup_iff).mpr hF.nd
    have hfl : rs.flatten.length ≤ 1000 := by
      rw [hp.length_eq, List.length_map]
      exact hl
    refine ⟨.ref o, rfl, o, rfl, ⟨_, hR.seq⟩, ?_⟩
    refine for_it (walk_list (xs := us.map V.ref)) (fun i σ H2 => ∃ y2 y3 y4 y5, σ = [some (.ref a), some (.ref o), y2, y3, y4, y5] ∧ Same H H2 ∧ ∀ (j : Nat) (s : List Int), j < i → rs[j]? = some s → eldUp gs s = none)
      ⟨_, _, _, _, rfl, Same.refl _, fun j s h => absurd h (Nat.not_lt_zero _)⟩ (fun i σ H2 _ hW => ?_) (fun i x σ H2 H3 hi hW hY => ?_) (fun σ H2 hW => ?_)
    · obtain ⟨_, _, _, _, _, sm, _⟩ := hW
      exact (hR.same sm).seq
    · obtain ⟨y2, y3, y4, y5, rfl, sm, hb⟩ := hW
      obtain ⟨rfl, hx⟩ := hY
      obtain ⟨t, r, rfl, _, er, et⟩ := (hR.same sm).get hx
      have hrn : r.Nodup := flat_nd hfn (List.mem_of_getElem? er)
      have hrb : r.length ≤ 1000 := Nat.le_trans (room_le_flat rs r (List.mem_of_getElem? er)) hfl
      refine ⟨.ref a, rfl, a, rfl, ⟨_, (hG.same sm).seq⟩, ?_⟩
      refine for_it (walk_list (xs := ts.map V.ref)) (fun j σ H4 => ∃ y3 y4 y5, σ = [some (.ref a), some (.ref o), some (.ref t), y3, y4, y5] ∧ Same H H4 ∧ H4 t = some (.lst (r.map V.int)) ∧ ∀ (j' : Nat) (g : Int × Int), j' < j → gs[j']? = some g → g.1 ∈ r → ((above r g.1).length : Int) ≤ g.2)
        ⟨_, _, _, rfl, sm, et, fun j b h => absurd h (Nat.not_lt_zero _)⟩ (fun j σ H4 _ hW => ?_) (fun j x σ H4 H5 hj hW hY => ?_) (fun σ H4 hW => ?_)
      · obtain ⟨_, _, _, _, s4, _⟩ := hW
        exact (hG.same s4).seq
      · obtain ⟨y3, y4, y5, rfl, sm4, et4, hb4⟩ := hW
        obtain ⟨rfl, hx⟩ := hY
        obtain ⟨u, z, rfl, ez, eu⟩ := (hG.same sm4).get hx
        have mz : z ∈ gs := List.mem_of_getElem? ez
        refine ⟨u, _, rfl, SqT.of eu, rfl, .int z.1, _, rfl, .int z.2, _, rfl, rfl, ?_⟩
        refine ⟨.int z.1, rfl, .ref t, rfl, t, _, rfl, .inl (SqL.of et4), rfl, flat_ints _, _, rfl, ?_⟩
        show if inV (.int z.1) (r.map V.int) = true then _ else _
        rw [inV_ints]
        by_cases hin : z.1 ∈ r
        · rw [decide_eq_true hin]
          refine iteT ?_
          -- the elders
          refine ⟨.ref t, rfl, t, rfl, ⟨_, SqL.of et4⟩, fun D nD => ?_⟩
          refine lc_it (walk_list (xs := r.map V.int)) (fun k H2 => Same H5 H2 ∧ H2 D = some (.lst ((above (r.take k) z.1).map V.int))) ⟨same_new nD, upd_same⟩ (fun k H2 _ hW => ?_) (fun k x H2 H3 hk hW hY => ?_) (fun H6 hW => ?_)
          · exact SqL.of (hW.1 _ _ et4)
          · obtain ⟨sm6, hD⟩ := hW
            obtain ⟨rfl, hx⟩ := hY
            obtain ⟨c, ec, rfl⟩ := ints_at hx
            have hal : (above (r.take k) z.1).length ≤ 1000 := by
              unfold above
              refine Nat.le_trans (List.length_filter_le _ _) ?_
              rw [List.length_take]
              omega
            refine ⟨rfl, .int c, rfl, .int z.1, rfl, _, _, rfl, rfl, _, rfl, ite2 (fun e => ?_) (fun e => ?_)⟩
            · have e : z.1 < c := of_decide_eq_true e
              refine ⟨.int c, rfl, _, hD, ils (by rw [List.length_map]; omega), Same.mut sm6 nD, ?_⟩
              rw [upd_same, take_snoc ec]
              unfold above
              rw [List.filter_append, List.filter_cons_of_pos (by simpa using e), List.filter_nil, List.map_append]
              rfl
            · have e : ¬ z.1 < c := fun z => e (decide_eq_true z)
              refine ⟨sm6, ?_⟩
              rw [take_snoc ec]
              unfold above
              rw [List.filter_append, List.filter_cons_of_neg (by simpa using e), List.filter_nil, List.append_nil]
              exact hD
          obtain ⟨s6, eD⟩ := hW
          rw [List.length_map, take_full] at eD
          have sm6 := Same.trans sm4 s6
          refine ⟨D, _, rfl, .inl (SqL.of eD), .int z.2, rfl, _, _, rfl, rfl, _, rfl, ite2 (fun e => ?_) (fun e => ?_)⟩
          · have e := of_decide_eq_true e
            rw [List.length_map] at e
            have hu : peaceB gs rs = false := decide_eq_false fun y => by
              have := (eldUp_iff hrn).mp (upsetOf_iff.mp y r (List.mem_of_getElem? er)) z.1 hin
              rw [pof_is hF.nd mz] at this
              omega
            have y := q _ sm6
            rw [hu] at y
            exact y
          · have e : ¬ (((above r z.1).map V.int).length : Int) > z.2 := fun z => e (decide_eq_true z)
            rw [List.length_map] at e
            refine ⟨_, _, _, rfl, sm6, s6 _ _ et4, fun j' g hj' eg mg => ?_⟩
            by_cases h : j' < j
            · exact hb4 j' g h eg mg
            · have : j' = j := by omega
              subst this
              obtain rfl : z = g := Option.some.inj (ez.symm.trans eg)
              omega
        · rw [decide_eq_false hin]
          refine iteF ?_
          refine ⟨_, _, _, rfl, sm4, et4, fun j' g hj' eg mg => ?_⟩
          by_cases h : j' < j
          · exact hb4 j' g h eg mg
          · have : j' = j := by omega
            subst this
            obtain rfl : z = g := Option.some.inj (ez.symm.trans eg)
            exact absurd mg hin
      · obtain ⟨y3, y4, y5, rfl, sm4, et4, hb4⟩ := hW
        rw [List.length_map, hG.len] at hb4
        refine ⟨_, _, _, _, rfl, sm4, fun j s hj es => ?_⟩
        by_cases h : j < i
        · exact hb j s h es
        · have : j = i := by omega
          subst this
          obtain rfl : r = s := Option.some.inj (er.symm.trans es)
          refine (eldUp_iff hrn).mpr fun c mc => ?_
          have mf : c ∈ gs.map (·.1) := hp.mem_iff.mp (List.mem_flatten.mpr ⟨r, List.mem_of_getElem? er, mc⟩)
          obtain ⟨g, mg, rfl⟩ := List.mem_map.mp mf
          obtain ⟨k, ek⟩ := List.mem_iff_getElem?.mp mg
          rw [pof_is hF.nd mg]
          exact hb4 k g (at_lt ek) ek mc
    · obtain ⟨y2, y3, y4, y5, rfl, sm, hb⟩ := hW
      have hu : peaceB gs rs = true := decide_eq_true (upsetOf_none fun s ms => by
        obtain ⟨j, ej⟩ := List.mem_iff_getElem?.mp ms
        refine hb j s ?_ ej
        rw [List.length_map, hR.len]
        exact at_lt ej)
      have y := q _ sm
      rw [hu] at y
      exact y
end
end El
namespace El
open PySem PySem.Spec PyProof.Rows L2
section
variable {P : Program} {w : World} {K : PySem.W.Frag} {mg : Str → Option Value} {base : Heap}
abbrev s__law_no_fuller : Stmt := topS 25
abbrev N__law_no_fuller : List Str := ["line", "most", "fullest", "room", "many"]
abbrev P__law_no_fuller : List Str := ["line", "most"]
theorem sc__law_no_fuller : FnScope N__law_no_fuller P__law_no_fuller (defScope s__law_no_fuller) := ⟨rfl, rfl, rfl, by decide +kernel, rfl, by decide +kernel, by decide +kernel⟩
def sp__law_no_fuller : Sp := fun vs H Q _ => ∃ (a b : Addr) (us : List Addr) (rs : List (List Int)) (L : List Int), vs = [.ref a, .ref b] ∧ RdAt H a us rs ∧ H b = some (.lst (L.map V.int)) ∧ rs.length ≤ 1000 ∧ L.length ≤ 1000 ∧
  (∀ (k : Nat) (x : Int), L[k]? = some x → ((down (lens rs)).take k).sum ≤ x) ∧ ∀ H', Same H H' → Q (.bl true) H'
theorem ok__law_no_fuller (A : At K mg "_law_no_fuller" P__law_no_fuller s__law_no_fuller) (B : Bi mg) : Df P w K mg base 1 "_law_no_fuller" P__law_no_fuller s__law_no_fuller sp__law_no_fuller := by
  refine A.df fun f fd F => F.ok sc__law_no_fuller (fun vs H Q E h => ?_) (fun cdv AA outer s H vs Q E hr h => ?_)
  · obtain ⟨_, _, _, _, _, rfl, _⟩ := h
    rfl
  · obtain ⟨a, b, us, rs, L, rfl, hR, eb, hl, hL, hle, q⟩ := h
    have nd := sc__law_no_fuller.nd
    refine ⟨_, (pss_cons (ps_set (i := 2) nd rfl (.inr rfl) (pe_revL (pe_callB cr_sortedI (by rfl) B.sorted (by decide +kernel) (pa_cons (pe_lc (own := [("room", 3)]) (tt := tYes) rfl nd (pi_list (pv 0)) (blkOk_by (N := N__law_no_fuller) (sc := defScope s__law_no_fuller) (by decide +kernel)) (fun _ _ _ _ _ => (pg_name (i := 3) nd rfl (.inl rfl))) (fun _ _ _ _ _ => pts_nil) (fun _ _ _ _ _ => (pe_callB (lenK K) (by rfl) B.len PySem.boot_len (pa_cons (pv 3) pa_nil)))) pa_nil))))
    (pss_one (ps_ret (pe_cmpR (op_eqD hr.units) (pe_lc (own := [("many", 4)]) rfl nd (pi_range1 (by rfl) B.range (pa_cons (pe_callB call_len_seq (by rfl) B.len PySem.boot_len (pa_cons (pv 1) pa_nil)) pa_nil)) (blkOk_by (N := N__law_no_fuller) (sc := defScope s__law_no_fuller) (by decide +kernel)) (fun _ _ _ _ _ => (pg_name (i := 4) nd rfl (.inl rfl))) (fun _ _ _ _ _ => (pts_one (pt_cmpR op_gt (pe_callB (sumK K rfl) (by rfl) B.sum (by decide +kernel) (pa_cons (pe_slice (sllK K) (pv 2) po_none (po_some (pv 4))) pa_nil)) (pe_ix (ixlK K) (pv 1) (pv 4) (fun _ _ => rfl)) (nomark _)))) (fun _ _ _ _ _ => pe_int)) (pe_lst pa_nil) (nomark _))))), ?_⟩
    refine ⟨.ref a, rfl, a, rfl, ⟨_, hR.seq⟩, fun D nD => ?_⟩
    refine lc_it (walk_list (xs := us.map V.ref)) (fun k H2 => Same H H2 ∧ H2 D = some (.lst ((lens (rs.take k)).map V.int))) ⟨same_new nD, upd_same⟩ (fun k H2 _ hW => (hR.same hW.1).seq) (fun k x H2 H3 hk hW hY => ?_) (fun H2 hW => ?_)
    · obtain ⟨sm, e⟩ := hW
      obtain ⟨rfl, hx⟩ := hY
      obtain ⟨t, r, rfl, _, er, et⟩ := (hR.same sm).get hx
      refine ⟨rfl, .ref t, rfl, t, _, rfl, .inl (SqL.of et), _, e, ils (by unfold lens; rw [List.length_map, List.length_map, List.length_take]; omega), Same.mut sm nD, ?_⟩
      rw [upd_same, take_snoc er]
      unfold lens
      rw [List.map_append, List.map_append, List.length_map]
      rfl
    · obtain ⟨sm, e⟩ := hW
      rw [List.length_map, hR.len, List.take_length] at e
      refine ⟨D, _, rfl, SqL.of e, fun ms p pm ps np => ?_⟩
      have sp' := same_new (o := .lst (ms.map V.int)) np
      refine ⟨p, ms.map V.int, rfl, SqL.of upd_same, fun p2 np2 => ?_⟩
      have em : (ms.map V.int).reverse = (down (lens rs)).map V.int := by
        rw [← List.map_reverse, ← down_is ((List.reverse_perm ms).trans pm) (List.pairwise_reverse.mpr ps)]
      rw [em]
      have s2 := sm.trans (sp'.trans (same_new (o := .lst ((down (lens rs)).map V.int)) np2))
      have e2 : (upd (upd H2 p (.lst (ms.map V.int))) p2 (.lst ((down (lens rs)).map V.int))) p2 = some (.lst ((down (lens rs)).map V.int)) := upd_same
      generalize upd (upd H2 p (.lst (ms.map V.int))) p2 (.lst ((down (lens rs)).map V.int)) = H3 at s2 e2 ⊢
      have eb3 := s2 _ _ eb
      refine ⟨.ref b, rfl, b, _, rfl, .inl (SqL.of eb3), _, rfl, by omega, by rw [List.length_map]; omega, fun D2 nD2 => ?_⟩
      refine lc_it walk_range (fun k H4 => Same H3 H4 ∧ H4 D2 = some (.lst [])) ⟨same_new nD2, upd_same⟩ (fun _ _ _ _ => trivial) (fun k x H4 H5 hk hW hY => ?_) (fun H4 hW => ?_)
      · obtain ⟨sm4, e4⟩ := hW
        obtain ⟨rfl, hx⟩ := hY
        obtain rfl := rg0 hx
        have hkL : k < L.length := by
          rw [List.length_map] at hk
          omega
        obtain ⟨y, ey⟩ := at_some hkL
        refine ⟨rfl, .ref p2, rfl, .int k, rfl, _, rfl, p2, _, rfl, SqL.of (sm4 _ _ e2), fun c nc => ?_⟩
        rw [cut_to, ← List.map_take]
        have sc := same_new (o := .lst (((down (lens rs)).take k).map V.int)) nc
        refine ⟨c, _, rfl, SqL.of upd_same, .ref b, rfl, .int k, rfl, b, _, _, .int y, rfl, rfl, SqL.of (sc _ _ (sm4 _ _ eb3)), atI_nat (j := k) (by rw [List.getElem?_map, ey]; rfl), _, _, rfl, rfl, _, rfl, ?_⟩
        rw [decide_eq_false (show ¬ y < ((down (lens rs)).take k).sum by have := hle k y ey; omega)]
        refine iteX rfl ?_
        exact ⟨sm4.trans sc, sc _ _ e4⟩
      · obtain ⟨sm4, e4⟩ := hW
        refine ⟨Nat.zero_le _, fun z nz => ?_⟩
        have sz := same_new (o := .lst []) nz
        refine ⟨dInts [], dInts [], Dp.ints (ns := []) (sz _ _ e4), Dp.ints (ns := []) upd_same, (Oks.ints _).shaped, (Oks.ints _).shaped, ?_⟩
        rw [eqv_nil]
        exact q _ (s2.trans (sm4.trans sz))
end
end El
namespace El
open PySem PySem.Spec PyProof.Rows L2
/-- two values that say the same, at most n deep -/
def Sca : V → Bool
  | .non => true
  | .bl _ => true
  | .int _ => true
  | .str _ => true
  | _ => false
def Alk (H : Hp) : Nat → V → V → Prop
  | 0, x, y => Sca x = true ∧ x = y
  | n + 1, x, y => (Sca x = true ∧ x = y) ∨ ∃ (a b : Addr) (xs ys : List V), x = .ref a ∧ y = .ref b ∧ ((H a = some (.lst xs) ∧ H b = some (.lst ys)) ∨ (H a = some (.tup xs) ∧ H b = some (.tup ys))) ∧ xs.length = ys.length ∧ ys.length ≤ 100000 ∧
      ∀ (i : Nat) (u v : V), xs[i]? = some u → ys[i]? = some v → Alk H n u v
theorem Alk.keep {H H' : Hp} (k : Same H H') : ∀ {n : Nat} {x y : V}, Alk H n x y → Alk H' n x y
  | 0, _, _, h => h
  | n + 1, _, _, h => by
    rcases h with h | ⟨a, b, xs, ys, rfl, rfl, h1, h2, h3, h4⟩
    · exact .inl h
    · refine .inr ⟨a, b, xs, ys, rfl, rfl, ?_, h2, h3, fun i u v e f => Alk.keep k (h4 i u v e f)⟩
      rcases h1 with ⟨h1, h2⟩ | ⟨h1, h2⟩
      · exact .inl ⟨k _ _ h1, k _ _ h2⟩
      · exact .inr ⟨k _ _ h1, k _ _ h2⟩
theorem Alk.up {H : Hp} : ∀ {n : Nat} {x y : V}, Alk H n x y → Alk H (n + 1) x y
  | 0, _, _, h => .inl h
  | n + 1, _, _, h => by
    rcases h with h | ⟨a, b, xs, ys, rfl, rfl, h1, h2, h3, h4⟩
    · exact .inl h
    · exact .inr ⟨a, b, xs, ys, rfl, rfl, h1, h2, h3, fun i u v e f => Alk.up (h4 i u v e f)⟩
theorem Alk.int {H : Hp} {n : Nat} {i : Int} : Alk H n (.int i) (.int i) := by
  cases n with
  | zero => exact ⟨rfl, rfl⟩
  | succ n => exact .inl ⟨rfl, rfl⟩
theorem Alk.ints {H : Hp} {n : Nat} {a b : Addr} {ns : List Int} (h1 : H a = some (.lst (ns.map V.int))) (h2 : H b = some (.lst (ns.map V.int))) (hl : ns.length ≤ 100000) : Alk H (n + 1) (.ref a) (.ref b) :=
  .inr ⟨a, b, _, _, rfl, rfl, .inl ⟨h1, h2⟩, rfl, by rw [List.length_map]; exact hl, fun i u v e f => by
    obtain rfl : u = v := Option.some.inj (e.symm.trans f)
    obtain ⟨n, _, rfl⟩ := ints_at e
    exact Alk.int⟩
theorem Alk.rows {H : Hp} {n : Nat} {B B' : Addr → Prop} {a b : Addr} {ts us : List Addr} {rs : List (List Int)} (h1 : RmsAt H B a ts rs) (h2 : RmsAt H B' b us rs) (hl : rs.length ≤ 100000) (hr : ∀ r ∈ rs, r.length ≤ 100000) : Alk H (n + 2) (.ref a) (.ref b) :=
  .inr ⟨a, b, _, _, rfl, rfl, .inl ⟨h1.top, h2.top⟩, by rw [List.length_map, List.length_map, h1.len, h2.len], by rw [List.length_map, h2.len]; exact hl, fun i u v e f => by
    obtain ⟨t, r, rfl, _, er, et⟩ := h1.get e
    obtain ⟨t', r', rfl, _, er', et'⟩ := h2.get f
    obtain rfl : r = r' := Option.some.inj (er.symm.trans er')
    exact Alk.ints et et' (hr r (List.mem_of_getElem? er))⟩
theorem Alk.two {H : Hp} {n : Nat} {a b : Addr} {x1 x2 y1 y2 : V} (h1 : H a = some (.lst [x1, x2])) (h2 : H b = some (.lst [y1, y2])) (k1 : Alk H n x1 y1) (k2 : Alk H n x2 y2) : Alk H (n + 1) (.ref a) (.ref b) :=
  .inr ⟨a, b, _, _, rfl, rfl, .inl ⟨h1, h2⟩, rfl, by show 2 ≤ 100000; decide, fun i u v e f => by
    match i, e, f with
    | 0, e, f =>
      obtain rfl := Option.some.inj e
      obtain rfl := Option.some.inj f
      exact k1
    | 1, e, f =>
      obtain rfl := Option.some.inj e
      obtain rfl := Option.some.inj f
      exact k2
    | i + 2, e, f => simp at e⟩
end El
namespace El
open PySem PySem.Spec PyProof.Rows L2
/-! ### the tray of draws -/
structure Tray (H : Hp) (t g : Addr) (n : Nat) : Prop where
  ne : t ≠ g
  ex : ∃ (gs : List Int) (a c d : Int), H t = some (.lst [.ref g, .int a, .int c, .int d]) ∧ H g = some (.lst (gs.map V.int)) ∧ (∀ x ∈ gs, 0 ≤ x) ∧ gs.length ≤ 63 ∧ 0 ≤ a ∧ 0 ≤ c ∧ c < 2305843009213693951 ∧ 0 ≤ d ∧ d ≤ n
/-- what is no part of the tray -/
def Off (t g : Addr) (b : Addr) : Prop := b ≠ t ∧ b ≠ g
theorem Tray.keep {H H' : Hp} {t g : Addr} {n : Nat} (h : Tray H t g n) (k : Same H H') : Tray H' t g n := by
  obtain ⟨gs, a, c, d, h1, h2, h3⟩ := h.ex
  exact ⟨h.ne, gs, a, c, d, k _ _ h1, k _ _ h2, h3⟩
theorem Tray.more {H : Hp} {t g : Addr} {n m : Nat} (h : Tray H t g n) (k : n ≤ m) : Tray H t g m := by
  obtain ⟨gs, a, c, d, h1, h2, h3, h4, h5, h6, h7, h8, h9⟩ := h.ex
  exact ⟨h.ne, gs, a, c, d, h1, h2, h3, h4, h5, h6, h7, h8, by omega⟩
theorem Tray.off {H : Hp} {t g : Addr} {n : Nat} (h : Tray H t g n) {p : Addr} (e : H p = none) : Off t g p := by
  obtain ⟨gs, a, c, d, h1, h2, _⟩ := h.ex
  exact ⟨no_of h1 e, no_of h2 e⟩
theorem Tray.mut {H : Hp} {t g : Addr} {n : Nat} (h : Tray H t g n) {p : Addr} {o : HO} (k : Off t g p) : Tray (upd H p o) t g n := by
  obtain ⟨gs, a, c, d, h1, h2, h3⟩ := h.ex
  exact ⟨h.ne, gs, a, c, d, by rw [upd_ne k.1.symm]; exact h1, by rw [upd_ne k.2.symm]; exact h2, h3⟩
theorem Kp.off {H H' : Hp} {t g p : Addr} {o : HO} (e : Kp (Off t g) H H') (h : p = t ∨ p = g) : Kp (Off t g) H (upd H' p o) := e.mut fun z => by
  rcases h with rfl | rfl
  · exact z.1 rfl
  · exact z.2 rfl
end El
namespace El
open PySem PySem.Spec PyProof.Rows L2
section
variable {P : Program} {w : World} {K : PySem.W.Frag} {mg : Str → Option Value} {base : Heap}
abbrev s__law_tray : Stmt := topS 17
abbrev N__law_tray : List Str := ["script", "fold", "great", "cell", "much"]
abbrev P__law_tray : List Str := ["script"]
theorem sc__law_tray : FnScope N__law_tray P__law_tray (defScope s__law_tray) := ⟨rfl, rfl, rfl, by decide +kernel, rfl, by decide +kernel, by decide +kernel⟩
def sp__law_tray (K : PySem.W.Frag) : Sp := fun vs H Q _ => ∃ (a : Addr) (ns : List Int), vs = [.ref a] ∧ SqL K H a (ns.map V.int) ∧ ns.length ≤ 63 ∧
  ∀ H' t g, Same H H' → H t = none → H g = none → Tray H' t g 0 → Q (.ref t) H'
theorem ok__law_tray (A : At K mg "_law_tray" P__law_tray s__law_tray) (B : Bi mg) : Df P w K mg base 1 "_law_tray" P__law_tray s__law_tray (sp__law_tray K) := by
  refine A.df fun f fd F => F.ok sc__law_tray (fun vs H Q E h => ?_) (fun cdv AA outer s H vs Q E hr h => ?_)
  · obtain ⟨a, _, rfl, _⟩ := h
    rfl
  · obtain ⟨a, ns, rfl, hS, hl, q⟩ := h
    have nd := sc__law_tray.nd
    refine ⟨_, (pss_cons (ps_set (i := 1) nd rfl (.inl rfl) pe_int)
    (pss_cons (ps_set (i := 2) nd rfl (.inl rfl) (pe_lst pa_nil))
    (pss_cons (ps_for PassesOwn.never rfl (pi_list (pv 0)) (pg_name (i := 3) nd rfl (.inl rfl)) (pss_cons (ps_set (i := 1) nd rfl (.inl rfl) (pe_op op_mod (pe_op op_add (pe_op op_mul (pv 1) pe_int) (pv 3)) (pe_op op_sub (pe_op op_pow pe_int pe_int) pe_int))) (pss_cons (ps_set (i := 4) nd rfl (.inl rfl) (pe_callB (call_max2 rfl) (by rfl) B.max (by decide +kernel) (pa_cons (pv 3) (pa_cons (pe_op op_sub pe_int (pv 3)) pa_nil)))) (pss_one (ps_if (pt_cmpR op_ge (pv 4) (pe_op op_pow pe_int pe_int) (nomark _)) (pss_one (ps_expr (pe_bm PySem.F.plainAttrs_list PySem.F.slot_list_append PySem.F.type_list_append mt_append (pv 2) (pa_cons (pe_op op_sub (pv 4) (pe_op op_pow pe_int pe_int)) pa_nil)))) pss_nil)))))
    (pss_one (ps_ret (pe_lst (pa_cons (pv 2) (pa_cons pe_int (pa_cons (pv 1) (pa_cons pe_int pa_nil)))))))))), ?_⟩
    refine ⟨Nat.zero_le _, fun g ng => ?_⟩
    refine ⟨.ref a, rfl, a, rfl, ⟨_, (same_new ng).seq hS⟩, ?_⟩
    refine for_it (walk_list (xs := ns.map V.int)) (fun i σ H2 => ∃ (c : Int) (gs : List Int) (y3 y4 : Option V), σ = [some (.ref a), some (.int c), some (.ref g), y3, y4] ∧ Same H H2 ∧ H2 g = some (.lst (gs.map V.int)) ∧ (∀ x ∈ gs, 0 ≤ x) ∧ gs.length ≤ i ∧ 0 ≤ c ∧ c < 2305843009213693951)
      ⟨314159265358979, [], none, none, rfl, same_new ng, upd_same, fun x h => absurd h (by simp), Nat.le_refl _, by decide, by decide⟩ (fun i σ H2 _ hW => ?_) (fun i x σ H2 H3 hi hW hY => ?_) (fun σ H2 hW => ?_)
    · obtain ⟨_, _, _, _, _, sm, _⟩ := hW
      exact sm.seq hS
    · obtain ⟨c, gs, y3, y4, rfl, sm, eg, hp, hgl, c0, c1⟩ := hW
      obtain ⟨rfl, hx⟩ := hY
      obtain ⟨n, hx', rfl⟩ := ints_at hx
      have hil : i < 63 := by
        rw [List.length_map] at hi
        omega
      -- fold = (fold * 1000003 + cell) % (2 ** 61 - 1)
      refine ⟨.int c, rfl, _, _, rfl, rfl, .inl ⟨by omega, by omega⟩, .int n, rfl, _, _, rfl, rfl, _, _, rfl, rfl, ⟨by decide, by decide, by decide⟩, _, _, rfl, rfl, _, _, rfl, rfl, (by show (0 : Int) < 2 ^ 61 - 1; decide), ?_⟩
      -- much = max(cell, 0 - cell)
      refine ⟨.int n, rfl, .int n, rfl, _, _, rfl, rfl, _, _, rfl, ?_⟩
      have m0 : 0 ≤ (if 0 - n > n then 0 - n else n) := by split <;> omega
      revert m0
      generalize (if 0 - n > n then 0 - n else n) = m
      intro m0
      have em : (2 : Int) ^ 61 - 1 = 2305843009213693951 := by decide
      have f0 : 0 ≤ (c * 1000003 + n) % (2 ^ 61 - 1) := Int.emod_nonneg _ (by decide)
      have f1 : (c * 1000003 + n) % (2 ^ 61 - 1) < 2305843009213693951 := by
        have := Int.emod_lt_of_pos (c * 1000003 + n) (show (0 : Int) < 2 ^ 61 - 1 by decide)
        omega
      -- if much >= 10 ** 18
      refine ⟨.int m, rfl, _, _, rfl, rfl, ⟨by decide, by decide, by decide⟩, _, _, rfl, rfl, _, rfl, ite2 (fun e => ?_) (fun e => ?_)⟩
      · have e : (10 : Int) ^ (18 : Int).toNat ≤ m := of_decide_eq_true e
        refine ⟨.ref g, rfl, .inl ⟨rfl, _, SqL.of eg⟩, .int m, rfl, _, _, rfl, rfl, ⟨by decide, by decide, by decide⟩, _, _, rfl, rfl, g, _, _, rfl, rfl, eg, ils (by rw [List.length_map]; omega), ?_⟩
        refine ⟨_, gs ++ [m - 10 ^ (18 : Int).toNat], _, _, rfl, Same.mut sm ng, by rw [upd_same, List.map_append]; rfl, fun x hx => ?_, by rw [List.length_append, List.length_singleton]; omega, f0, f1⟩
        rcases List.mem_append.mp hx with hx | hx
        · exact hp x hx
        · rw [List.mem_singleton.mp hx]
          omega
      · exact ⟨_, gs, _, _, rfl, sm, eg, hp, Nat.le_succ_of_le hgl, f0, f1⟩
    · obtain ⟨c, gs, y3, y4, rfl, sm, eg, hp, hgl, c0, c1⟩ := hW
      rw [List.length_map] at hgl
      refine ⟨.ref g, rfl, .int c, rfl, (by show 4 ≤ sizeLine; decide), fun t nt => ?_⟩
      have ntg : g ≠ t := ne_of_none eg nt
      exact q _ t g (sm.trans (same_new nt)) (sm.free nt) ng ⟨ntg.symm, gs, 0, c, 0, upd_same, by rw [upd_ne ntg]; exact eg, hp, by omega, by decide, c0, c1, by decide, by decide⟩
end
end El
namespace El
open PySem PySem.Spec PyProof.Rows L2
section
variable {P : Program} {w : World} {K : PySem.W.Frag} {mg : Str → Option Value} {base : Heap}
abbrev s__law_draw : Stmt := topS 18
abbrev N__law_draw : List Str := ["tray", "many", "found", "mixed"]
abbrev P__law_draw : List Str := ["tray", "many"]
theorem sc__law_draw : FnScope N__law_draw P__law_draw (defScope s__law_draw) := ⟨rfl, rfl, rfl, by decide +kernel, rfl, by decide +kernel, by decide +kernel⟩
def sp__law_draw : Sp := fun vs H Q _ => ∃ (t g : Addr) (n : Nat) (m : Int), vs = [.ref t, .int m] ∧ Tray H t g n ∧ n ≤ 1000000000 ∧ 0 < m ∧ m < 2 ^ 200 ∧
  ∀ H' r, Kp (Off t g) H H' → Tray H' t g (n + 1) → 0 ≤ r → r < m → Q (.int r) H'
theorem ok__law_draw (A : At K mg "_law_draw" P__law_draw s__law_draw) (B : Bi mg) : Df P w K mg base 1 "_law_draw" P__law_draw s__law_draw sp__law_draw := by
  refine A.df fun f fd F => F.ok sc__law_draw (fun vs H Q E h => ?_) (fun cdv AA outer s H vs Q E hr h => ?_)
  · obtain ⟨_, _, _, _, rfl, _⟩ := h
    rfl
  · obtain ⟨t, g, n, m, rfl, hT, hn, m0, m1, q⟩ := h
    have nd := sc__law_draw.nd
    refine ⟨_, (pss_cons (ps_while PassesOwn.never (PW.pt (pw_and (pt_cmpR op_lt (pe_ix ix_list (pv 0) pe_int (fun _ _ => rfl)) pe_int (nomark _)) (pw_and1 (pt_cmpR (op_neD hr.units) (pe_ix ix_list (pv 0) pe_int (fun _ _ => rfl)) (pe_lst pa_nil) (nomark _))))) (pss_one (ps_asg (pe_bm PySem.F.plainAttrs_list PySem.F.slot_list_pop PySem.F.type_list_pop mt_popAt (pe_ix ix_list (pv 0) pe_int (fun _ _ => rfl)) (pa_cons pe_int pa_nil)) (pg_sub (pv 0) pe_int set_list))))
    (pss_cons (ps_if (pt_cmpR op_ge (pe_ix ix_list (pv 0) pe_int (fun _ _ => rfl)) pe_int (nomark _)) (pss_cons (ps_set (i := 2) nd rfl (.inl rfl) (pe_op op_mod (pe_ix ix_list (pv 0) pe_int (fun _ _ => rfl)) (pv 1))) (pss_cons (ps_asg (pe_op op_fdivW (pe_ix ix_list (pv 0) pe_int (fun _ _ => rfl)) (pv 1)) (pg_sub (pv 0) pe_int set_list)) (pss_one (ps_ret (pv 2))))) pss_nil)
    (pss_cons (ps_asg (pe_op op_add (pe_ix ix_list (pv 0) pe_int (fun _ _ => rfl)) pe_int) (pg_sub (pv 0) pe_int set_list))
    (pss_cons (ps_set (i := 3) nd rfl (.inl rfl) (pe_op op_mod (pe_op op_add (pe_op op_mul (pe_op op_add (pe_ix ix_list (pv 0) pe_int (fun _ _ => rfl)) pe_int) (pe_op op_pow (pe_op op_add (pe_ix ix_list (pv 0) pe_int (fun _ _ => rfl)) pe_int) pe_int)) (pe_op op_mul pe_int (pe_ix ix_list (pv 0) pe_int (fun _ _ => rfl)))) (pe_op op_sub (pe_op op_pow pe_int pe_int) pe_int)))
    (pss_one (ps_ret (pe_op op_mod (pe_op op_fdivW (pe_op op_mod (pe_op op_pow (pv 3) pe_int) (pe_op op_add (pe_op op_pow pe_int pe_int) pe_int)) pe_int) (pv 1)))))))), ?_⟩
    have ne := hT.ne
    obtain ⟨gs0, a0, c0, d0, i1, i2, i3, i4, i5, i6, i7, i8, i9⟩ := hT.ex
    refine seq_to (fun σ H2 => σ = [some (.ref t), some (.int m), none, none] ∧ Kp (Off t g) H H2 ∧ Tray H2 t g n) (fun X hX => ?_) (fun σ H2 hE => ?_)
    · -- the while
      refine while_to (fun k σ H2 => σ = [some (.ref t), some (.int m), none, none] ∧ Kp (Off t g) H H2 ∧ ∃ (gs : List Int) (a c d : Int), H2 t = some (.lst [.ref g, .int a, .int c, .int d]) ∧ H2 g = some (.lst (gs.map V.int)) ∧ (∀ x ∈ gs, 0 ≤ x) ∧ gs.length ≤ 63 ∧ 0 ≤ a ∧ 0 ≤ c ∧ c < 2305843009213693951 ∧ 0 ≤ d ∧ d ≤ n ∧ k = gs.length)
        (fun σ H2 => σ = [some (.ref t), some (.int m), none, none] ∧ Kp (Off t g) H H2 ∧ Tray H2 t g n) ⟨gs0.length, rfl, Kp.refl, gs0, a0, c0, d0, i1, i2, i3, i4, i5, i6, i7, i8, i9, rfl⟩ hX (fun X hX k σ H2 hW => ?_)
      obtain ⟨rfl, kp, gs, a, c, d, j1, j2, j3, j4, j5, j6, j7, j8, j9, rfl⟩ := hW
      refine ⟨.ref t, rfl, t, _, 1, .int a, rfl, rfl, SqL.of j1, atI_nat (j := 1) rfl, _, _, rfl, rfl, _, rfl, ite2 (fun ea => ?_) (fun ea => ?_)⟩
      · refine ⟨.ref t, rfl, t, _, 0, .ref g, rfl, rfl, SqL.of j1, atI_nat (j := 0) rfl, Nat.zero_le _, fun u nu => ?_⟩
        have s1 : Same H2 (upd H2 u (.lst [])) := same_new nu
        refine ⟨dInts gs, dInts [], Dp.ints (s1 _ _ j2), Dp.ints upd_same, (Oks.ints _).shaped, (Oks.ints _).shaped, _, rfl, ?_⟩
        rw [eqv_nil]
        cases gs with
        | nil => exact iteF (hX _ _ ⟨rfl, kp.trans (.of s1), ne, [], a, c, d, s1 _ _ j1, s1 _ _ j2, j3, j4, j5, j6, j7, j8, j9⟩)
        | cons x r =>
          refine iteT ⟨fun σ' H' => σ' = [some (.ref t), some (.int m), none, none] ∧ Kp (Off t g) H H' ∧ ∃ (gs : List Int) (a c d : Int), H' t = some (.lst [.ref g, .int a, .int c, .int d]) ∧ H' g = some (.lst (gs.map V.int)) ∧ (∀ x ∈ gs, 0 ≤ x) ∧ gs.length ≤ 63 ∧ 0 ≤ a ∧ 0 ≤ c ∧ c < 2305843009213693951 ∧ 0 ≤ d ∧ d ≤ n ∧ r.length = gs.length, fun σ' H' h => ⟨r.length, Nat.lt_succ_self _, h⟩, ?_⟩
          refine ⟨.ref t, rfl, t, _, 0, .ref g, rfl, rfl, SqL.of (s1 _ _ j1), atI_nat (j := 0) rfl, .inl ⟨rfl, _, SqL.of (s1 _ _ j2)⟩, g, _, 0, 0, .int x, rfl, rfl, s1 _ _ j2, by decide, by decide, seq_ix (j := 0) (by simp), rfl, ?_⟩
          refine ⟨.ref t, rfl, t, _, 1, 1, rfl, rfl, (by rw [upd_ne ne]; exact s1 _ _ j1), rfl, ?_⟩
          refine ⟨rfl, (Kp.off (Kp.off (kp.trans (.of s1)) (.inr rfl)) (.inl rfl)), r, x, c, d, by rw [upd_same]; rfl, by rw [upd_ne ne.symm, upd_same]; rfl, fun y hy => j3 y (List.mem_cons_of_mem _ hy), Nat.le_of_succ_le j4, j3 x List.mem_cons_self, j6, j7, j8, j9, rfl⟩
      · exact iteF (hX _ _ ⟨rfl, kp, ne, gs, a, c, d, j1, j2, j3, j4, j5, j6, j7, j8, j9⟩)
    · obtain ⟨rfl, kp, hT2⟩ := hE
      obtain ⟨gs, a, c, d, j1, j2, j3, j4, j5, j6, j7, j8, j9⟩ := hT2.ex
      have g1 : CDivW a m := ⟨m0, Nat.lt_trans (log_lt m0 m1) (by decide)⟩
      -- if tray[1] >= 2
      refine ⟨.ref t, rfl, t, _, 1, .int a, rfl, rfl, SqL.of j1, atI_nat (j := 1) rfl, _, _, rfl, rfl, _, rfl, ite2 (fun ea => ?_) (fun ea => ?_)⟩
      · refine ⟨.ref t, rfl, t, _, 1, .int a, rfl, rfl, SqL.of j1, atI_nat (j := 1) rfl, .int m, rfl, _, _, rfl, rfl, m0, ?_⟩
        refine ⟨.ref t, rfl, t, _, 1, .int a, rfl, rfl, SqL.of j1, atI_nat (j := 1) rfl, .int m, rfl, _, _, rfl, rfl, g1, ?_⟩
        refine ⟨.ref t, rfl, t, _, 1, 1, rfl, rfl, j1, rfl, _, rfl, ?_⟩
        exact q _ _ (Kp.off kp (.inl rfl)) ⟨ne, gs, a / m, c, d, by rw [upd_same]; rfl, by rw [upd_ne ne.symm]; exact j2, j3, j4, Int.ediv_nonneg j5 (by omega), j6, j7, j8, by omega⟩ (Int.emod_nonneg _ (by omega)) (Int.emod_lt_of_pos _ m0)
      · -- tray[3] = tray[3] + 1
        refine ⟨.ref t, rfl, t, _, 3, .int d, rfl, rfl, SqL.of j1, atI_nat (j := 3) rfl, _, _, rfl, rfl, ?_⟩
        refine ⟨.ref t, rfl, t, _, 3, 3, rfl, rfl, j1, rfl, ?_⟩
        have e1 : upd H2 t (.lst ([V.ref g, .int a, .int c, .int d].set 3 (.int (d + 1)))) t = some (.lst [.ref g, .int a, .int c, .int (d + 1)]) := by rw [upd_same]; rfl
        have hT3 : Tray (upd H2 t (.lst ([V.ref g, .int a, .int c, .int d].set 3 (.int (d + 1))))) t g (n + 1) := ⟨ne, gs, a, c, d + 1, e1, by rw [upd_ne ne.symm]; exact j2, j3, j4, j5, j6, j7, by omega, by omega⟩
        have k3 : Kp (Off t g) H (upd H2 t (.lst ([V.ref g, .int a, .int c, .int d].set 3 (.int (d + 1))))) := Kp.off kp (.inl rfl)
        revert e1 hT3 k3
        generalize upd H2 t (.lst ([V.ref g, .int a, .int c, .int d].set 3 (.int (d + 1)))) = H3
        intro e1 hT3 k3
        -- mixed
        refine ⟨.ref t, rfl, t, _, 2, .int c, rfl, rfl, SqL.of e1, atI_nat (j := 2) rfl, _, _, rfl, rfl, .ref t, rfl, t, _, 3, .int (d + 1), rfl, rfl, SqL.of e1, atI_nat (j := 3) rfl, _, _, rfl, rfl, _, _, rfl, rfl, ⟨by decide, by decide, ?_⟩, _, _, rfl, rfl, .inl ⟨by omega, by omega⟩,
          .ref t, rfl, t, _, 3, .int (d + 1), rfl, rfl, SqL.of e1, atI_nat (j := 3) rfl, _, _, rfl, rfl, .inl ⟨by decide, by decide⟩, _, _, rfl, rfl, _, _, rfl, rfl, ⟨by decide, by decide, by decide⟩, _, _, rfl, rfl, _, _, rfl, rfl, (by show (0 : Int) < 2 ^ 61 - 1; decide), ?_⟩
        · show (d + 1 + 2).natAbs < 2 ^ 64
          omega
        · have f0 : 0 ≤ ((c + 5) * (d + 1 + 2) ^ (3 : Int).toNat + 1000003 * (d + 1)) % (2 ^ (61 : Int).toNat - 1) := Int.emod_nonneg _ (by decide)
          have f1 : ((c + 5) * (d + 1 + 2) ^ (3 : Int).toNat + 1000003 * (d + 1)) % (2 ^ (61 : Int).toNat - 1) < 2 ^ 61 - 1 := Int.emod_lt_of_pos _ (show (0 : Int) < 2 ^ 61 - 1 by decide)
          refine ⟨_, rfl, _, _, rfl, rfl, ⟨by decide, by decide, ?_⟩, _, _, rfl, rfl, ⟨by decide, by decide, by decide⟩, _, _, rfl, rfl, _, _, rfl, rfl, (by show (0 : Int) < 10 ^ 18 + 9; decide), _, _, rfl, rfl, ⟨by decide, by decide⟩, .int m, rfl, _, _, rfl, rfl, m0, ?_⟩
          · show (((c + 5) * (d + 1 + 2) ^ (3 : Int).toNat + 1000003 * (d + 1)) % (2 ^ (61 : Int).toNat - 1)).natAbs < 2 ^ 64
            omega
          · exact q _ _ k3 hT3 (Int.emod_nonneg _ (by omega)) (Int.emod_lt_of_pos _ m0)
end
end El
namespace El
open PySem PySem.Spec PyProof.Rows L2
section
variable {P : Program} {w : World} {K : PySem.W.Frag} {mg : Str → Option Value} {base : Heap}
abbrev s__law_shuffled : Stmt := topS 19
abbrev N__law_shuffled : List Str := ["tray", "things", "left", "k"]
abbrev P__law_shuffled : List Str := ["tray", "things"]
theorem sc__law_shuffled : FnScope N__law_shuffled P__law_shuffled (defScope s__law_shuffled) := ⟨rfl, rfl, rfl, by decide +kernel, rfl, by decide +kernel, by decide +kernel⟩
def sp__law_shuffled (K : PySem.W.Frag) : Sp := fun vs H Q _ => ∃ (t g : Addr) (n : Nat) (a : Addr) (xs : List V), vs = [.ref t, .ref a] ∧ Tray H t g n ∧ SqL K H a xs ∧ xs.length ≤ 1000 ∧ n + xs.length ≤ 1000000000 ∧
  ∀ H' o ys, Kp (Off t g) H H' → Tray H' t g (n + xs.length) → H o = none → H' o = some (.lst ys) → ys.Perm xs → Q (.ref o) H'
theorem ok__law_shuffled (A : At K mg "_law_shuffled" P__law_shuffled s__law_shuffled) (B : Bi mg) (D__law_draw : Df P w K mg base 1 "_law_draw" P__law_draw s__law_draw sp__law_draw) :
    Df P w K mg base 2 "_law_shuffled" P__law_shuffled s__law_shuffled (sp__law_shuffled K) := by
  refine A.df fun f fd F => F.ok sc__law_shuffled (fun vs H Q E h => ?_) (fun cdv AA outer s H vs Q E hr h => ?_)
  · obtain ⟨_, _, _, _, _, rfl, _⟩ := h
    rfl
  · obtain ⟨t, g, n, a, xs, rfl, hT, hS, hl, hn, q⟩ := h
    have nd := sc__law_shuffled.nd
    refine ⟨_, (pss_cons (ps_set (i := 2) nd rfl (.inr rfl) (pe_callTy call_list_of (by rfl) B.list_ (by decide +kernel) (pa_cons (pv 1) pa_nil)))
    (pss_one (ps_ret (pe_lc (own := [("k", 3)]) (tt := tYes) rfl nd (pi_range1 (by rfl) B.range (pa_cons (pe_callB call_len_seq (by rfl) B.len PySem.boot_len (pa_cons (pv 2) pa_nil)) pa_nil)) (blkOk_by (N := N__law_shuffled) (sc := defScope s__law_shuffled) (by decide +kernel)) (fun _ _ _ _ _ => (pg_name (i := 3) nd rfl (.inl rfl))) (fun _ _ _ _ _ => pts_nil) (fun _ _ _ _ _ => (bmK K PySem.F.plainAttrs_list PySem.F.slot_list_pop PySem.F.type_list_pop mt_popAt (pv 2) (pa_cons (pe_df D__law_draw (hr.mono (by decide)) (by rfl) (pa_cons (pv 0) (pa_cons (pe_callB (lenK K) (by rfl) B.len PySem.boot_len (pa_cons (pv 2) pa_nil)) pa_nil))) pa_nil))))))), ?_⟩
    refine ⟨.ref a, rfl, a, xs, rfl, .inl hS, fun l nl => ?_⟩
    have el : upd H l (.lst xs) l = some (.lst xs) := upd_same
    have sl : Same H (upd H l (.lst xs)) := same_new nl
    refine ⟨.ref l, rfl, l, xs, rfl, .inl (SqL.of el), _, rfl, by omega, by omega, fun D nD => ?_⟩
    have nDl : l ≠ D := ne_of_none el nD
    have nD0 : H D = none := sl.free nD
    have ol : Off t g l := hT.off nl
    have oD : Off t g D := hT.off nD0
    refine lc_it (walk_range (n := xs.length)) (fun i H2 => ∃ ls acc, Kp (Off t g) H H2 ∧ H2 l = some (.lst ls) ∧ H2 D = some (.lst acc) ∧ (acc ++ ls).Perm xs ∧ ls.length + i = xs.length ∧ acc.length = i ∧ Tray H2 t g (n + i))
      ⟨xs, [], (Kp.of sl).trans (Kp.of (same_new nD)), by rw [upd_ne nDl]; exact el, upd_same, by simp, rfl, rfl, (hT.keep sl).keep (same_new nD)⟩ (fun _ _ _ _ => trivial) (fun i x H2 H3 hi hW hY => ?_) (fun H2 hW => ?_)
    · obtain ⟨ls, acc, kp, e1, e2, pm, hlen, ha, hT2⟩ := hW
      obtain ⟨rfl, rfl⟩ := hY
      have hm : (1 : Nat) ≤ ls.length := by omega
      refine ⟨rfl, .ref l, rfl, .inl ⟨rfl, _, SqL.of e1⟩, .ref t, rfl, .ref l, rfl, l, ls, rfl, .inl (SqL.of e1), t, g, n + i, _, rfl, hT2, by omega, by omega, ?_, fun H4 r k4 T4 r0 r1 => ?_⟩
      · exact Int.lt_of_lt_of_le (show (ls.length : Int) < 1001 by omega) (by decide)
      · obtain ⟨k, rfl⟩ : ∃ k : Nat, r = k := ⟨r.toNat, by omega⟩
        have hk : k < ls.length := by omega
        obtain ⟨y, ey⟩ := at_some hk
        have e1' := k4 _ _ ol e1
        have e2' := k4 _ _ oD e2
        refine ⟨l, ls, _, k, y, rfl, rfl, e1', by omega, by omega, seq_ix hk, ey, acc, by rw [upd_ne nDl.symm]; exact e2', ils (by omega), ls.eraseIdx k, acc ++ [y], ?_, ?_, upd_same, ?_, ?_, ?_, ?_⟩
        · exact (Kp.mutF (Kp.mutF (kp.trans k4) nl) nD0)
        · rw [upd_ne nDl, upd_same]
        · refine List.Perm.trans ?_ pm
          rw [List.append_assoc]
          exact List.Perm.append_left _ (erase_perm ey)
        · rw [List.length_eraseIdx_of_lt hk]
          omega
        · rw [List.length_append, ha]
          rfl
        · exact (T4.mut ol).mut oD
    · obtain ⟨ls, acc, kp, e1, e2, pm, hlen, ha, hT2⟩ := hW
      have : ls = [] := List.eq_nil_of_length_eq_zero (by omega)
      subst this
      rw [List.append_nil] at pm
      exact q H2 D acc kp hT2 nD0 e2 pm
end
end El
namespace El
open PySem PySem.Spec PyProof.Rows L2
section
variable {P : Program} {w : World} {K : PySem.W.Frag} {mg : Str → Option Value} {base : Heap}
abbrev s_patience_by_age : Stmt := topS 6
abbrev N_patience_by_age : List Str := ["guests", "patience_of", "number", "age", "patience"]
abbrev P_patience_by_age : List Str := ["guests"]
theorem sc_patience_by_age : FnScope N_patience_by_age P_patience_by_age (defScope s_patience_by_age) := ⟨rfl, rfl, rfl, by decide +kernel, rfl, by decide +kernel, by decide +kernel⟩
def sp_patience_by_age : Sp := fun vs H Q _ => ∃ (B : Addr → Prop) (a : Addr) (ts : List Addr) (gs : List (Int × Int)), vs = [.ref a] ∧ GsAt H B a ts gs ∧ Fit gs ∧ gs.length ≤ 1000 ∧
  ∀ H' d, Same H H' → H d = none → H' d = some (.dK (pks gs)) → Q (.ref d) H'
theorem ok_patience_by_age (A : At K mg "patience_by_age" P_patience_by_age s_patience_by_age) (B : Bi mg) : Df P w K mg base 1 "patience_by_age" P_patience_by_age s_patience_by_age sp_patience_by_age := by
  refine A.df fun f fd F => F.ok sc_patience_by_age (fun vs H Q E h => ?_) (fun cdv AA outer s H vs Q E hr h => ?_)
  · obtain ⟨_, a, _, _, rfl, _⟩ := h
    rfl
  · obtain ⟨BB, a, ts, gs, rfl, hG, hF, hl, q⟩ := h
    have nd := sc_patience_by_age.nd
    refine ⟨_, (pss_cons (ps_set (i := 1) nd rfl (.inl rfl) pe_dnewK)
    (pss_cons (ps_for PassesOwn.never rfl (pi_enum (by rfl) B.enumerate (pa_cons (pv 0) pa_nil)) (pg_tup (by rfl) (pgs_cons (pg_name (i := 2) nd rfl (.inl rfl)) (pgs_cons (pg_tup (by rfl) (pgs_cons (pg_name (i := 3) nd rfl (.inl rfl)) (pgs_cons (pg_name (i := 4) nd rfl (.inl rfl)) pgs_nil))) pgs_nil))) (pss_cons (ps_if (PW.pt (pw_or (pt_cmpR op_lt (pv 4) pe_int (nomark _)) (pw_or1 (pt_cmp (pc_din (hu_of hr) (pv 3) (pv 1)))))) (pss_one ps_never) pss_nil) (pss_one (ps_dput (hu_of hr) (pv 1) (pv 3) (pv 4) rfl))))
    (pss_one (ps_ret (pv 1))))), ?_⟩
    -- patience_of = {}
    refine fun d nd => ?_
    have hG1 := hG.same (same_new (o := .dK []) nd)
    -- the loop
    refine ⟨.ref a, rfl, a, ts.map V.ref, rfl, hG1.seq, ?_⟩
    refine for_it (walk_enum (xs := ts.map V.ref)) (fun i σ H2 => ∃ y2 y3 y4, σ = [some (.ref a), some (.ref d), y2, y3, y4] ∧ Same H H2 ∧ H2 d = some (.dK (pks (gs.take i)))) ⟨none, none, none, rfl, same_new nd, upd_same⟩ (fun i σ H2 _ hW => ?_) (fun i x σ H2 H3 hi hW hY => ?_) (fun σ H2 hW => ?_)
    · obtain ⟨_, _, _, _, sm, _⟩ := hW
      exact (hG.same sm).seq
    · obtain ⟨y2, y3, y4, rfl, sm, hd⟩ := hW
      obtain ⟨T, x1, x2, rfl, nT, rfl, f1, f2⟩ := hY
      obtain rfl : V.int ↑i = x1 := Option.some.inj f1
      obtain ⟨t, g, rfl, eg, et⟩ := (hG.same sm).get f2
      have s3 : Same H2 (upd H2 T (.tup [.int i, .ref t])) := same_new nT
      refine ⟨T, [.int i, .ref t], rfl, SqT.of upd_same, rfl, .int i, [.ref t], rfl, .ref t, [], rfl, ?_⟩
      refine ⟨t, _, rfl, SqT.of (s3 _ _ et), rfl, .int g.1, [.int g.2], rfl, .int g.2, [], rfl, rfl, rfl, ?_⟩
      -- the test
      have hg : 0 ≤ g.2 := hF.pos g (List.mem_of_getElem? eg)
      have no := hF.take_no eg
      refine ⟨.int g.2, rfl, _, _, rfl, rfl, _, rfl, ?_⟩
      rw [decide_eq_false (by omega)]
      refine iteF ?_
      refine ⟨.int g.1, rfl, .ref d, rfl, d, _, rfl, DGet.k (k := Sum.inl g.1) (s3 _ _ hd), _, rfl, ?_⟩
      rw [pks_none no]
      refine iteF ?_
      refine ⟨.int g.2, rfl, .ref d, rfl, .int g.1, rfl, d, _, rfl, DPut.k (k := Sum.inl g.1) (s3 _ _ hd) (ils (by rw [pks_len, List.length_take]; omega)), ?_⟩
      refine ⟨some (.int i), some (.int g.1), some (.int g.2), rfl, Same.mut (Same.trans sm s3) nd, ?_⟩
      rw [upd_same, putK_snoc no, take_snoc eg]
    · obtain ⟨y2, y3, y4, rfl, sm, hd⟩ := hW
      rw [show (ts.map V.ref).length = gs.length by rw [List.length_map, hG.len], take_full] at hd
      exact ⟨.ref d, rfl, q H2 d sm nd hd⟩
end
end El
namespace El
open PySem PySem.Spec PyProof.Rows L2
section
variable {P : Program} {w : World} {K : PySem.W.Frag} {mg : Str → Option Value} {base : Heap}
abbrev s_first_borne : Stmt := topS 11
abbrev N_first_borne : List Str := ["filled", "patience", "number", "room"]
abbrev P_first_borne : List Str := ["filled", "patience"]
theorem sc_first_borne : FnScope N_first_borne P_first_borne (defScope s_first_borne) := ⟨rfl, rfl, rfl, by decide +kernel, rfl, by decide +kernel, by decide +kernel⟩
def sp_first_borne : Sp := fun vs H Q _ => ∃ (B : Addr → Prop) (o : Addr) (ts : List Addr) (rs : List (List Int)) (p : Int), vs = [.ref o, .int p] ∧ RmsAt H B o ts rs ∧ rs.length ≤ 1000 ∧
  ∀ H', Same H H' → Q (.int (firstB rs p)) H'
theorem ok_first_borne (A : At K mg "first_borne" P_first_borne s_first_borne) (B : Bi mg) : Df P w K mg base 1 "first_borne" P_first_borne s_first_borne sp_first_borne := by
  refine A.df fun f fd F => F.ok sc_first_borne (fun vs H Q E h => ?_) (fun cdv AA outer s H vs Q E hr h => ?_)
  · obtain ⟨_, _, _, _, _, rfl, _⟩ := h
    rfl
  · obtain ⟨BB, o, ts, rs, p, rfl, hR, hl, q⟩ := h
    have nd := sc_first_borne.nd
    refine ⟨_, (pss_cons (ps_for PassesOwn.never rfl (pi_enum (by rfl) B.enumerate (pa_cons (pv 0) pa_nil)) (pg_tup (by rfl) (pgs_cons (pg_name (i := 2) nd rfl (.inl rfl)) (pgs_cons (pg_name (i := 3) nd rfl (.inl rfl)) pgs_nil))) (pss_one (ps_if (pt_cmpR op_le (pe_callB call_len_seq (by rfl) B.len PySem.boot_len (pa_cons (pv 3) pa_nil)) (pv 1) (nomark _)) (pss_one (ps_ret (pv 2))) pss_nil)))
    (pss_one (ps_ret (pe_callB call_len_seq (by rfl) B.len PySem.boot_len (pa_cons (pv 0) pa_nil))))), ?_⟩
    refine ⟨.ref o, rfl, o, ts.map V.ref, rfl, hR.seq, ?_⟩
    refine for_it (walk_enum (xs := ts.map V.ref)) (fun i σ H2 => ∃ y2 y3, σ = [some (.ref o), some (.int p), y2, y3] ∧ Same H H2 ∧ ∀ j r, j < i → rs[j]? = some r → p < (r.length : Int)) ⟨none, none, rfl, Same.refl _, fun j r h => absurd h (Nat.not_lt_zero _)⟩ (fun i σ H2 _ hW => ?_) (fun i x σ H2 H3 hi hW hY => ?_) (fun σ H2 hW => ?_)
    · obtain ⟨_, _, _, sm, _⟩ := hW
      exact (hR.same sm).seq
    · obtain ⟨y2, y3, rfl, sm, hp⟩ := hW
      obtain ⟨T, x1, x2, rfl, nT, rfl, f1, f2⟩ := hY
      obtain rfl : V.int ↑i = x1 := Option.some.inj f1
      obtain ⟨t, r, rfl, _, er, et⟩ := (hR.same sm).get f2
      have s3 : Same H2 (upd H2 T (.tup [.int i, .ref t])) := same_new nT
      refine ⟨T, [.int i, .ref t], rfl, SqT.of upd_same, rfl, .int i, [.ref t], rfl, .ref t, [], rfl, rfl, ?_⟩
      refine ⟨.ref t, rfl, t, _, rfl, .inl (SqL.of (s3 _ _ et)), .int p, rfl, _, _, rfl, rfl, _, rfl, ite2 (fun e => ?_) (fun e => ?_)⟩
      · have e := of_decide_eq_true e
        rw [List.length_map] at e
        have hb : firstB rs p = i := firstB_is rs p i (Nat.le_of_lt (at_lt er)) hp fun r' e' => by
          obtain rfl : r = r' := Option.some.inj (er.symm.trans e')
          exact e
        refine ⟨.int i, rfl, ?_⟩
        have q' := q (upd H2 T (.tup [.int i, .ref t])) (sm.trans s3)
        rw [hb] at q'
        exact q'
      · have e : ¬ (((r.map V.int).length : Int) ≤ p) := fun z => e (decide_eq_true z)
        rw [List.length_map] at e
        refine ⟨some (.int i), some (.ref t), rfl, sm.trans s3, fun j r' hj e' => ?_⟩
        by_cases hji : j < i
        · exact hp j r' hji e'
        · have : j = i := by omega
          subst this
          obtain rfl : r = r' := Option.some.inj (er.symm.trans e')
          omega
    · obtain ⟨y2, y3, rfl, sm, hp⟩ := hW
      have hn : (ts.map V.ref).length = rs.length := by rw [List.length_map, hR.len]
      rw [hn] at hp
      have hb : firstB rs p = rs.length := firstB_is rs p _ (Nat.le_refl _) hp fun r' e' => absurd (at_lt e') (Nat.lt_irrefl _)
      refine ⟨.ref o, rfl, o, _, rfl, .inl (hR.same sm).seq, ?_⟩
      have q' := q H2 sm
      rw [hb, ← hn] at q'
      exact q'
end
end El
namespace El
open PySem PySem.Spec PyProof.Rows L2
section
variable {P : Program} {w : World} {K : PySem.W.Frag} {mg : Str → Option Value} {base : Heap}
abbrev s_rooms : Stmt := topS 10
abbrev N_rooms : List Str := ["guests", "patience_of", "told", "age", "number"]
abbrev P_rooms : List Str := ["guests"]
theorem sc_rooms : FnScope N_rooms P_rooms (defScope s_rooms) := ⟨rfl, rfl, rfl, by decide +kernel, rfl, by decide +kernel, by decide +kernel⟩
def sp_rooms : Sp := fun vs H Q _ => ∃ (B : Addr → Prop) (a : Addr) (ts : List Addr) (gs : List (Int × Int)), vs = [.ref a] ∧ GsAt H B a ts gs ∧ Fit gs ∧ gs.length ≤ 1000 ∧
  ∀ H' o us, Same H H' → RmsAt H' (fun b => H b = none) o us (settle gs) → Q (.ref o) H'
theorem ok_rooms (A : At K mg "rooms" P_rooms s_rooms) (B : Bi mg) (D_patience_by_age : Df P w K mg base 1 "patience_by_age" P_patience_by_age s_patience_by_age sp_patience_by_age)
    (D_first_borne : Df P w K mg base 1 "first_borne" P_first_borne s_first_borne sp_first_borne) : Df P w K mg base 2 "rooms" P_rooms s_rooms sp_rooms := by
  refine A.df fun f fd F => F.ok sc_rooms (fun vs H Q E h => ?_) (fun cdv AA outer s H vs Q E hr h => ?_)
  · obtain ⟨_, a, _, _, rfl, _⟩ := h
    rfl
  · obtain ⟨BB, a, ts, gs, rfl, hG, hF, hl, q⟩ := h
    have nd := sc_rooms.nd
    refine ⟨_, (pss_cons (ps_set (i := 1) nd rfl (.inl rfl) (pe_df D_patience_by_age (hr.mono (by decide)) (by rfl) (pa_cons (pv 0) pa_nil)))
    (pss_cons (ps_set (i := 2) nd rfl (.inl rfl) (pe_lst pa_nil))
    (pss_cons (ps_for PassesOwn.never rfl (pi_list (pe_callBK (cr_sortedRevD (b := true) rfl) (by rfl) B.sorted (by decide +kernel) (pa_cons (pv 1) pa_nil) (pk_cons pe_bl pk_nil))) (pg_name (i := 3) nd rfl (.inl rfl)) (pss_cons (ps_set (i := 4) nd rfl (.inl rfl) (pe_df D_first_borne (hr.mono (by decide)) (by rfl) (pa_cons (pv 2) (pa_cons (pe_dget (hu_of hr) (pv 1) (pv 3) (fun _ _ => rfl)) pa_nil)))) (pss_cons (ps_if (pt_cmpR op_eq (pv 4) (pe_callB call_len_seq (by rfl) B.len PySem.boot_len (pa_cons (pv 2) pa_nil)) (nomark _)) (pss_one (ps_expr (pe_bm PySem.F.plainAttrs_list PySem.F.slot_list_append PySem.F.type_list_append mt_append (pv 2) (pa_cons (pe_lst pa_nil) pa_nil)))) pss_nil) (pss_one (ps_expr (pe_bm PySem.F.plainAttrs_list PySem.F.slot_list_append PySem.F.type_list_append mt_append (pe_ix ix_list (pv 2) (pv 4) (fun _ _ => rfl)) (pa_cons (pv 3) pa_nil)))))))
    (pss_one (ps_ret (pv 2)))))), ?_⟩
    -- patience_of = patience_by_age(guests)
    refine ⟨.ref a, rfl, BB, a, ts, gs, rfl, hG, hF, hl, fun H1 d s1 n1 e1 => ?_⟩
    -- told = []
    refine ⟨Nat.zero_le _, fun o no => ?_⟩
    have s2 : Same H1 (upd H1 o (.lst [])) := same_new no
    -- sorted(patience_of, reverse=True)
    refine ⟨.ref d, rfl, d, pks gs, gs.map (·.1), rfl, rfl, .inl (s2 _ _ e1), pks_keys gs, fun ns p hp ho np => ?_⟩
    have hns : ns = (byAge gs).map (·.1) := ages_of hF hp ho
    subst hns
    have s3 : Same (upd H1 o (.lst [])) (upd (upd H1 o (.lst [])) p (.lst (((byAge gs).map (·.1)).map V.int))) := same_new np
    have sH : Same H (upd (upd H1 o (.lst [])) p (.lst (((byAge gs).map (·.1)).map V.int))) := s1.trans (s2.trans s3)
    refine ⟨p, rfl, ⟨_, SqL.of upd_same⟩, ?_⟩
    have hpo : o ≠ p := (no_of upd_same np).symm
    have eo : upd (upd H1 o (.lst [])) p (.lst (((byAge gs).map (·.1)).map V.int)) o = some (.lst []) := by
      rw [upd_ne hpo, upd_same]
    have ep : upd (upd H1 o (.lst [])) p (.lst (((byAge gs).map (·.1)).map V.int)) p = some (.lst (((byAge gs).map (·.1)).map V.int)) := upd_same
    have ed := s3 _ _ (s2 _ _ e1)
    have hdo : d ≠ o := ne_of_none e1 no
    have no' : H o = none := s1.free no
    revert eo ep ed sH
    generalize upd (upd H1 o (.lst [])) p (.lst (((byAge gs).map (·.1)).map V.int)) = Hs
    intro sH eo ep ed
    refine for_it (walk_list (xs := ((byAge gs).map (·.1)).map V.int)) (fun i σ H2 => ∃ us y3 y4, σ = [some (.ref a), some (.ref d), some (.ref o), y3, y4] ∧ Kp (fun b => b ≠ o) Hs H2 ∧ RmsAt H2 (fun b => b = o ∨ Hs b = none) o us (settleL ((byAge gs).take i)))
      ⟨[], none, none, rfl, Kp.refl, RmsAt.nil eo (.inl rfl)⟩ (fun i σ H2 _ hW => ?_) (fun i x σ H2 H3 hi hW hY => ?_) (fun σ H2 hW => ?_)
    · obtain ⟨_, _, _, _, kp, _⟩ := hW
      exact SqL.of (kp _ _ hpo.symm ep)
    · obtain ⟨us, y3, y4, rfl, kp, hR⟩ := hW
      obtain ⟨rfl, hx⟩ := hY
      obtain ⟨n, hx', rfl⟩ := ints_at hx
      have hi' : i < (byAge gs).length := by
        have := at_lt hx'
        rw [List.length_map] at this
        exact this
      obtain ⟨g, eg⟩ := at_some hi'
      rw [List.getElem?_map, eg] at hx'
      obtain rfl : g.1 = n := Option.some.inj hx'
      have hm : g ∈ gs := (byAge_perm gs).mem_iff.mp (List.mem_of_getElem? eg)
      have hlt : (settleL ((byAge gs).take i)).length ≤ 1000 := by
        refine Nat.le_trans (settleL_len _) ?_
        rw [List.length_take, byAge_length]
        omega
      have hE := settleL_take eg
      have hrm : ∀ r ∈ settleL ((byAge gs).take i), r.length ≤ 1000 := fun r hr => by
        refine Nat.le_trans (settleL_room hr) ?_
        rw [List.length_take, byAge_length]
        omega
      revert hlt hE hR hrm
      generalize settleL ((byAge gs).take i) = rs
      intro hR hlt hE hrm
      -- number = first_borne(told, patience_of[age])
      refine ⟨.ref o, rfl, .ref d, rfl, .int g.1, rfl, d, .int g.2, rfl, dget_pks (kp _ _ hdo ed) hF hm, _, o, us, _, g.2, rfl, hR, hlt, fun H4 s4 => ?_⟩
      have hR4 := hR.same s4
      have k4 : Kp (fun b => b ≠ o) Hs H4 := kp.trans (.of s4)
      have fin : ∀ {H5 : Hp} {us' : List Addr} {rs' : List (List Int)} {t : Addr} {r : List Int}, Kp (fun b => b ≠ o) Hs H5 → RmsAt H5 (fun b => b = o ∨ Hs b = none) o us' rs' → us'[firstB rs g.2]? = some t → place rs g.1 g.2 = rs'.set (firstB rs g.2) (r ++ [g.1]) →
          ∃ us y3 y4, [some (V.ref a), some (.ref d), some (.ref o), some (.int g.1), some (.int (firstB rs g.2))] = [some (V.ref a), some (.ref d), some (.ref o), y3, y4] ∧ Kp (fun b => b ≠ o) Hs (upd H5 t (.lst (r.map V.int ++ [.int g.1]))) ∧ RmsAt (upd H5 t (.lst (r.map V.int ++ [.int g.1]))) (fun b => b = o ∨ Hs b = none) o us (settleL ((byAge gs).take (i + 1))) := by
        intro H5 us' rs' t r k5 hR5 et ep
        refine ⟨us', _, _, rfl, ?_, ?_⟩
        · rcases hR5.b t (List.mem_of_getElem? et) with z | z
          · exact absurd (z ▸ List.mem_of_getElem? et) hR5.no
          · exact k5.mutF z
        · have z := hR5.set et (r ++ [g.1])
          rw [List.map_append] at z
          rw [hE, ep]
          exact z
      -- if number == len(told)
      refine ⟨_, rfl, .ref o, rfl, o, _, rfl, .inl hR4.seq, rfl, _, rfl, ite2 (fun e => ?_) (fun e => ?_)⟩
      · have e := V.int.inj (of_decide_eq_true e)
        rw [List.length_map, hR.len] at e
        have e : firstB rs g.2 = rs.length := by omega
        refine ⟨.ref o, rfl, .inl ⟨rfl, _, hR4.seq⟩, Nat.zero_le _, fun u nu => ?_⟩
        have nuo : o ≠ u := ne_of_none hR4.top nu
        refine ⟨o, _, _, rfl, rfl, (by rw [upd_ne nuo]; exact hR4.top), ils (by rw [List.length_map, hR.len]; omega), ?_⟩
        have hns : Hs u = none := k4.none nuo.symm nu
        have hR5 := hR4.push (r := []) nu (.inr hns)
        have k5 : Kp (fun b => b ≠ o) Hs (upd (upd H4 u (.lst [])) o (.lst (us.map V.ref ++ [.ref u]))) := Kp.mut (Kp.new k4 nu) (fun z => z rfl)
        have et : (us ++ [u])[firstB rs g.2]? = some u := by
          rw [e, ← hR.len, List.getElem?_append_right (Nat.le_refl _), Nat.sub_self]
          rfl
        have er : (rs ++ [[]])[firstB rs g.2]? = some [] := by
          rw [e, List.getElem?_append_right (Nat.le_refl _), Nat.sub_self]
          rfl
        have eu := hR5.at' _ _ _ et er
        refine ⟨.ref o, rfl, _, rfl, o, _, _, .ref u, rfl, rfl, SqL.of (by rw [upd_same]), atI_nat (j := firstB rs g.2) ?_, .inl ⟨rfl, _, SqL.of eu⟩, .int g.1, rfl, u, _, _, rfl, rfl, eu, ils (Nat.zero_le _), ?_⟩
        · have z := congrArg (Option.map V.ref) et
          rw [← List.getElem?_map, List.map_append] at z
          exact z
        · refine fin (r := []) k5 hR5 et ?_
          rw [place_new _ _ _ e, e, List.set_append_right _ _ (Nat.le_refl _), Nat.sub_self]
          rfl
      · have e : ¬ firstB rs g.2 = rs.length := fun z => e (decide_eq_true (by rw [List.length_map, hR.len, z]))
        have hle := firstB_le rs g.2
        obtain ⟨r, er, _⟩ := firstB_in rs g.2 (by omega)
        obtain ⟨t, et, eu⟩ := hR4.of er
        refine ⟨.ref o, rfl, _, rfl, o, _, _, .ref t, rfl, rfl, hR4.seq, atI_nat (j := firstB rs g.2) ?_, .inl ⟨rfl, _, SqL.of eu⟩, .int g.1, rfl, t, _, _, rfl, rfl, eu, ils (by rw [List.length_map]; have := hrm r (List.mem_of_getElem? er); omega), ?_⟩
        · rw [List.getElem?_map, et]
          rfl
        · exact fin k4 hR4 et (place_at _ _ _ _ er)
    · obtain ⟨us, y3, y4, rfl, kp, hR⟩ := hW
      rw [List.length_map, List.length_map, take_full] at hR
      refine ⟨.ref o, rfl, q H2 o us ?_ (hR.newTop (fun _ _ _ e => e) fun b hb => ?_)⟩
      · intro b x hb
        exact kp _ _ (ne_of_none hb no') (sH _ _ hb)
      · rcases hb with rfl | hb
        · exact no'
        · rcases hR.b b hb with rfl | z
          · exact no'
          · exact sH.free z
end
end El
namespace El
open PySem PySem.Spec PyProof.Rows L2
section
variable {P : Program} {w : World} {K : PySem.W.Frag} {mg : Str → Option Value} {base : Heap}
abbrev s_check_first : Stmt := topS 7
abbrev N_check_first : List Str := ["j"]
abbrev P_check_first : List Str := ["j"]
theorem sc_check_first : FnScope N_check_first P_check_first (defScope s_check_first) := ⟨rfl, rfl, rfl, by decide +kernel, rfl, by decide +kernel, by decide +kernel⟩
def sp_check_first : Sp := fun vs H Q _ => ∃ j : Nat, vs = [.int (j : Int)] ∧ Q .non H
theorem ok_check_first (A : At K mg "check_first" P_check_first s_check_first) : Df P w K mg base 1 "check_first" P_check_first s_check_first sp_check_first := by
  refine A.df fun f fd F => F.ok sc_check_first (fun vs H Q E h => ?_) (fun cdv AA outer s H vs Q E hr h => ?_)
  · obtain ⟨_, rfl, _⟩ := h
    rfl
  · obtain ⟨j, rfl, q⟩ := h
    have nd := sc_check_first.nd
    refine ⟨_, (pss_one (ps_if (pt_cmpR op_lt (pv 0) pe_int (nomark _)) (pss_one ps_never) pss_nil)), ?_⟩
    refine ⟨_, rfl, _, _, rfl, rfl, _, rfl, ?_⟩
    rw [decide_eq_false (by omega)]
    exact iteF q
end
end El
namespace El
open PySem PySem.Spec PyProof.Rows L2
section
variable {P : Program} {w : World} {K : PySem.W.Frag} {mg : Str → Option Value} {base : Heap}
abbrev s_sizes : Stmt := topS 12
abbrev N_sizes : List Str := ["guests", "room"]
abbrev P_sizes : List Str := ["guests"]
theorem sc_sizes : FnScope N_sizes P_sizes (defScope s_sizes) := ⟨rfl, rfl, rfl, by decide +kernel, rfl, by decide +kernel, by decide +kernel⟩
def sp_sizes : Sp := fun vs H Q _ => ∃ (B : Addr → Prop) (a : Addr) (ts : List Addr) (gs : List (Int × Int)), vs = [.ref a] ∧ GsAt H B a ts gs ∧ Fit gs ∧ gs.length ≤ 1000 ∧
  ∀ H' o, Same H H' → H o = none → H' o = some (.lst ((lens (settle gs)).map V.int)) → Q (.ref o) H'
theorem ok_sizes (A : At K mg "sizes" P_sizes s_sizes) (B : Bi mg) (D_rooms : Df P w K mg base 2 "rooms" P_rooms s_rooms sp_rooms) : Df P w K mg base 3 "sizes" P_sizes s_sizes sp_sizes := by
  refine A.df fun f fd F => F.ok sc_sizes (fun vs H Q E h => ?_) (fun cdv AA outer s H vs Q E hr h => ?_)
  · obtain ⟨_, a, _, _, rfl, _⟩ := h
    rfl
  · obtain ⟨BB, a, ts, gs, rfl, hG, hF, hl, q⟩ := h
    have nd := sc_sizes.nd
    refine ⟨_, (pss_one (ps_ret (pe_lc (own := [("room", 1)]) (tt := tYes) rfl nd (pi_list (pe_df D_rooms (hr.mono (by decide)) (by rfl) (pa_cons (pv 0) pa_nil))) (blkOk_by (N := N_sizes) (sc := defScope s_sizes) (by decide +kernel)) (fun _ _ _ _ _ => (pg_name (i := 1) nd rfl (.inl rfl))) (fun _ _ _ _ _ => pts_nil) (fun _ _ _ _ _ => (pe_callB (lenK K) (by rfl) B.len PySem.boot_len (pa_cons (pv 1) pa_nil)))))), ?_⟩
    refine ⟨.ref a, rfl, BB, a, ts, gs, rfl, hG, hF, hl, fun H1 o us s1 hR => ?_⟩
    refine ⟨o, rfl, ⟨_, hR.seq⟩, fun D nD => ?_⟩
    have hlen : (settle gs).length ≤ 1000 := Nat.le_trans (settleL_len _) (by rw [byAge_length]; exact hl)
    refine lc_it (walk_list (xs := us.map V.ref)) (fun i H2 => Same H1 H2 ∧ H2 D = some (.lst ((lens ((settle gs).take i)).map V.int))) ⟨same_new nD, upd_same⟩ (fun i H2 _ hW => ?_) (fun i x H2 H3 hi hW hY => ?_) (fun H2 hW => ?_)
    · exact (hR.same hW.1).seq
    · obtain ⟨sm, hD⟩ := hW
      obtain ⟨rfl, hx⟩ := hY
      obtain ⟨t, r, rfl, _, er, et⟩ := (hR.same sm).get hx
      refine ⟨rfl, .ref t, rfl, t, _, rfl, .inl (SqL.of et), _, hD, ils (by rw [List.length_map, lens_length, List.length_take]; omega), Same.mut sm nD, ?_⟩
      rw [upd_same, take_snoc er]
      show _ = some (HO.lst (((((settle gs).take i) ++ [r]).map fun r => (r.length : Int)).map V.int))
      rw [List.map_append, List.map_append]
      show some (HO.lst (_ ++ [V.int ((List.map V.int r).length : Int)])) = _
      rw [List.length_map]
      rfl
    · obtain ⟨sm, hD⟩ := hW
      rw [List.length_map, hR.len, take_full] at hD
      exact q H2 D (s1.trans sm) (s1.free nD) hD
end
end El
namespace El
open PySem PySem.Spec PyProof.Rows L2
section
variable {P : Program} {w : World} {K : PySem.W.Frag} {mg : Str → Option Value} {base : Heap}
abbrev s_in_first : Stmt := topS 13
abbrev N_in_first : List Str := ["guests", "j", "told"]
abbrev P_in_first : List Str := ["guests", "j"]
theorem sc_in_first : FnScope N_in_first P_in_first (defScope s_in_first) := ⟨rfl, rfl, rfl, by decide +kernel, rfl, by decide +kernel, by decide +kernel⟩
def sp_in_first : Sp := fun vs H Q _ => ∃ (B : Addr → Prop) (a : Addr) (ts : List Addr) (gs : List (Int × Int)) (j : Nat), vs = [.ref a, .int (j : Int)] ∧ GsAt H B a ts gs ∧ Fit gs ∧ gs.length ≤ 1000 ∧
  ∀ H', Same H H' → Q (.int ((lens (settle gs)).take j).sum) H'
theorem ok_in_first (A : At K mg "in_first" P_in_first s_in_first) (B : Bi mg) (D_sizes : Df P w K mg base 3 "sizes" P_sizes s_sizes sp_sizes) (D_check_first : Df P w K mg base 1 "check_first" P_check_first s_check_first sp_check_first) :
    Df P w K mg base 4 "in_first" P_in_first s_in_first sp_in_first := by
  refine A.df fun f fd F => F.ok sc_in_first (fun vs H Q E h => ?_) (fun cdv AA outer s H vs Q E hr h => ?_)
  · obtain ⟨_, a, _, _, _, rfl, _⟩ := h
    rfl
  · obtain ⟨BB, a, ts, gs, j, rfl, hG, hF, hl, q⟩ := h
    have nd := sc_in_first.nd
    refine ⟨_, (pss_cons (ps_set (i := 2) nd rfl (.inl rfl) (pe_df D_sizes (hr.mono (by decide)) (by rfl) (pa_cons (pv 0) pa_nil)))
    (pss_cons (ps_expr (pe_df D_check_first (hr.mono (by decide)) (by rfl) (pa_cons (pv 1) pa_nil)))
    (pss_one (ps_ret (pe_callB (cr_sum rfl) (by rfl) B.sum (by decide +kernel) (pa_cons (pe_slice sl_list (pv 2) po_none (po_some (pv 1))) pa_nil)))))), ?_⟩
    refine ⟨.ref a, rfl, BB, a, ts, gs, rfl, hG, hF, hl, fun H1 o s1 no eo => ?_⟩
    refine ⟨_, rfl, j, rfl, ?_⟩
    refine ⟨.ref o, rfl, .int (j : Int), rfl, _, rfl, o, _, rfl, SqL.of eo, fun p np => ?_⟩
    rw [cut_to, ← List.map_take]
    exact ⟨p, _, rfl, SqL.of upd_same, q _ (s1.trans (same_new np))⟩
end
end El
namespace El
open PySem PySem.Spec PyProof.Rows L2
section
variable {P : Program} {w : World} {K : PySem.W.Frag} {mg : Str → Option Value} {base : Heap}
abbrev s_check_arrangement : Stmt := topS 8
abbrev N_check_arrangement : List Str := ["patience_of", "arrangement", "seen", "number", "room", "age"]
abbrev P_check_arrangement : List Str := ["patience_of", "arrangement"]
theorem sc_check_arrangement : FnScope N_check_arrangement P_check_arrangement (defScope s_check_arrangement) := ⟨rfl, rfl, rfl, by decide +kernel, rfl, by decide +kernel, by decide +kernel⟩
def sp_check_arrangement : Sp := fun vs H Q _ => ∃ (d o : Addr) (ts : List Addr) (rs : List (List Int)) (gs : List (Int × Int)), vs = [.ref d, .ref o] ∧ H d = some (.dK (pks gs)) ∧ RdAt H o ts rs ∧ rs.flatten.Perm (gs.map (·.1)) ∧ (gs.map (·.1)).Nodup ∧ gs.length ≤ 1000 ∧
  ∀ H', Same H H' → Q .non H'
theorem ok_check_arrangement (A : At K mg "check_arrangement" P_check_arrangement s_check_arrangement) (B : Bi mg) : Df P w K mg base 1 "check_arrangement" P_check_arrangement s_check_arrangement sp_check_arrangement := by
  refine A.df fun f fd F => F.ok sc_check_arrangement (fun vs H Q E h => ?_) (fun cdv AA outer s H vs Q E hr h => ?_)
  · obtain ⟨_, _, _, _, _, rfl, _⟩ := h
    rfl
  · obtain ⟨d, o, ts, rs, gs, rfl, hd, hR, hp, hn, hl, q⟩ := h
    have nd := sc_check_arrangement.nd
    refine ⟨_, (pss_cons (ps_set (i := 2) nd rfl (.inl rfl) (pe_callTy0 cr_set0 (by rfl) B.set_ (by decide +kernel)))
    (pss_cons (ps_for PassesOwn.never rfl (pi_enum (by rfl) B.enumerate (pa_cons (pv 1) pa_nil)) (pg_tup (by rfl) (pgs_cons (pg_name (i := 3) nd rfl (.inl rfl)) (pgs_cons (pg_name (i := 4) nd rfl (.inl rfl)) pgs_nil))) (pss_one (ps_for PassesOwn.never rfl (pi_list (pv 4)) (pg_name (i := 5) nd rfl (.inl rfl)) (pss_cons (ps_if (PW.pt (pw_or (pt_cmp (pc_dnotin (hu_of hr) (pv 5) (pv 0))) (pw_or1 (pt_cmpR or_sin (pv 5) (pv 2) (by rfl))))) (pss_one ps_never) pss_nil) (pss_one (ps_expr (pe_sadd (pv 2) (pa_cons (pv 5) pa_nil))))))))
    (pss_one (ps_if (pt_cmpR op_lt (pe_callB call_lenSI (by rfl) B.len PySem.boot_len (pa_cons (pv 2) pa_nil)) (pe_callB call_lenD (by rfl) B.len PySem.boot_len (pa_cons (pv 0) pa_nil)) (nomark _)) (pss_one ps_never) pss_nil)))), ?_⟩
    have hpl : rs.flatten.length = gs.length := by rw [hp.length_eq, List.length_map]
    have hfn : rs.flatten.Nodup := (hp.nodup_iff).mpr hn
    -- seen
    refine ⟨rfl, fun p np => ?_⟩
    refine ⟨.ref o, rfl, o, ts.map V.ref, rfl, (hR.same (same_new np)).seq, ?_⟩
    refine for_it (walk_enum (xs := ts.map V.ref)) (fun i σ H2 => ∃ y3 y4 y5 S, σ = [some (.ref d), some (.ref o), some (.ref p), y3, y4, y5] ∧ Same H H2 ∧ H2 p = some (SetO w p S (rs.take i).flatten.length) ∧ ∀ k, S k = decide (k ∈ (rs.take i).flatten))
      ⟨none, none, none, fun _ => false, rfl, same_new np, upd_same, fun k => (decide_eq_false (List.not_mem_nil)).symm⟩ (fun i σ H2 _ hW => ?_) (fun i x σ H2 H3 hi hW hY => ?_) (fun σ H2 hW => ?_)
    · obtain ⟨_, _, _, _, _, sm, _⟩ := hW
      exact (hR.same sm).seq
    · obtain ⟨y3, y4, y5, S, rfl, sm, hS, hm⟩ := hW
      obtain ⟨T, x1, x2, rfl, nT, rfl, f1, f2⟩ := hY
      obtain rfl : V.int ↑i = x1 := Option.some.inj f1
      obtain ⟨t, r, rfl, _, er, et⟩ := (hR.same sm).get f2
      have s3 : Same H2 (upd H2 T (.tup [.int i, .ref t])) := same_new nT
      refine ⟨T, [.int i, .ref t], rfl, SqT.of upd_same, rfl, .int i, [.ref t], rfl, .ref t, [], rfl, rfl, ?_⟩
      have hp3 := s3 _ _ hS
      have sm3 : Same H (upd H2 T (.tup [.int i, .ref t])) := sm.trans s3
      have et3 := s3 _ _ et
      revert hp3 sm3 et3
      generalize upd H2 T (.tup [.int i, .ref t]) = H3
      intro hp3 sm3 et3
      refine ⟨.ref t, rfl, t, rfl, ⟨_, SqL.of et3⟩, ?_⟩
      have htp : t ≠ p := fun z => by
        rw [z, hp3] at et3
        cases et3
      refine for_it (walk_list (xs := r.map V.int)) (fun j σ H4 => ∃ y5 S, σ = [some (.ref d), some (.ref o), some (.ref p), some (.int i), some (.ref t), y5] ∧ Kp (fun b => b ≠ p) H3 H4 ∧ H4 p = some (SetO w p S ((rs.take i).flatten ++ r.take j).length) ∧ ∀ k, S k = decide (k ∈ (rs.take i).flatten ++ r.take j))
        ⟨_, S, rfl, Kp.refl, by rw [List.take_zero, List.append_nil]; exact hp3, fun k => by rw [List.take_zero, List.append_nil]; exact hm k⟩ (fun j σ H4 _ hW => ?_) (fun j x σ H4 H5 hj hW hY => ?_) (fun σ H4 hW => ?_)
      · obtain ⟨_, _, _, kp, _⟩ := hW
        exact SqL.of (kp _ _ htp et3)
      · obtain ⟨y5, S, rfl, kp, hS4, hm4⟩ := hW
        obtain ⟨rfl, hx⟩ := hY
        obtain ⟨a, ea, rfl⟩ := ints_at hx
        have hdp : d ≠ p := fun z => by
          rw [z, np] at hd
          cases hd
        have hd4 := kp _ _ hdp (sm3 _ _ hd)
        have ha : a ∈ gs.map (·.1) := hp.mem_iff.mp (flat_mem er ea)
        have no := flat_split hfn er ea
        refine ⟨.int a, rfl, .ref d, rfl, d, _, rfl, dget_pof hd4 hn ha, _, rfl, ?_⟩
        refine iteF ⟨.int a, rfl, .ref p, rfl, a, p, S, _, rfl, rfl, hS4, _, rfl, ?_⟩
        rw [hm4 a, decide_eq_false no]
        refine iteF ⟨.ref p, rfl, ⟨p, S, _, rfl, hS4⟩, .int a, rfl, p, a, S, _, rfl, rfl, hS4, ?_, ?_⟩
        · have hlt : ((rs.take i).flatten ++ r.take j).length ≤ 1000 := by
            have h1 : (rs.take i).flatten.length + r.length ≤ rs.flatten.length := by
              have := congrArg List.length (congrArg List.flatten (List.take_append_drop (i + 1) rs))
              rw [List.flatten_append, List.length_append, take_snoc_flat er, List.length_append] at this
              omega
            rw [List.length_append, List.length_take]
            omega
          exact Nat.lt_of_le_of_lt (Nat.succ_le_succ hlt) (by decide)
        · have hSa : S a = false := by
            rw [hm4 a]
            exact decide_eq_false no
          have hne : ((rs.take i).flatten ++ r.take (j + 1)).length = ((rs.take i).flatten ++ r.take j).length + 1 := by
            rw [take_snoc ea, ← List.append_assoc, List.length_append (as := _ ++ _)]
            rfl
          refine ⟨some (.int a), fun z => S z || decide (z = a), rfl, Kp.mut kp (fun z => z rfl), ?_, ?_⟩
          · rw [hne]
            refine Eq.trans upd_same ?_
            rw [hSa]
            rfl
          · intro k
            show (S k || decide (k = a)) = _
            rw [hm4 k, take_snoc ea, ← List.append_assoc]
            by_cases h1 : k ∈ (rs.take i).flatten ++ r.take j
            · rw [decide_eq_true h1, decide_eq_true (List.mem_append_left _ h1)]
              rfl
            · rw [decide_eq_false h1, Bool.false_or]
              by_cases h2 : k = a
              · rw [decide_eq_true h2, decide_eq_true (List.mem_append_right _ (List.mem_singleton.mpr h2))]
              · rw [decide_eq_false h2, decide_eq_false fun z => (List.mem_append.mp z).elim h1 fun z => h2 (List.mem_singleton.mp z)]
      · obtain ⟨y5, S, rfl, kp, hS4, hm4⟩ := hW
        rw [List.length_map, take_full, ← take_snoc_flat er] at hS4
        refine ⟨_, _, _, S, rfl, fun b x e => kp b x (fun z => by rw [z, np] at e; cases e) (sm3 b x e), hS4, fun k => ?_⟩
        rw [hm4 k, List.length_map, take_full, ← take_snoc_flat er]
    · obtain ⟨y3, y4, y5, S, rfl, sm, hS, hm⟩ := hW
      rw [List.length_map, hR.len, take_full] at hS
      refine ⟨.ref p, rfl, p, S, _, rfl, hS, by omega, .ref d, rfl, d, _, rfl, sm _ _ hd, _, _, rfl, rfl, _, rfl, ?_⟩
      rw [pks_len, hpl, decide_eq_false (by omega)]
      exact iteF (q _ sm)
end
end El
namespace El
open PySem PySem.Spec PyProof.Rows L2
section
variable {P : Program} {w : World} {K : PySem.W.Frag} {mg : Str → Option Value} {base : Heap}
abbrev s_eldest_upset : Stmt := topS 15
abbrev N_eldest_upset : List Str := ["patience_of", "room", "elders", "age"]
abbrev P_eldest_upset : List Str := ["patience_of", "room"]
theorem sc_eldest_upset : FnScope N_eldest_upset P_eldest_upset (defScope s_eldest_upset) := ⟨rfl, rfl, rfl, by decide +kernel, rfl, by decide +kernel, by decide +kernel⟩
/-- the value told -/
def upV : Option Int → V
  | some a => .int a
  | none => .non
def sp_eldest_upset : Sp := fun vs H Q _ => ∃ (d o : Addr) (ns : List Int) (gs : List (Int × Int)), vs = [.ref d, .ref o] ∧ H d = some (.dK (pks gs)) ∧ H o = some (.lst (ns.map V.int)) ∧ (∀ a ∈ ns, a ∈ gs.map (·.1)) ∧ (gs.map (·.1)).Nodup ∧ ns.length ≤ 1000 ∧
  ∀ H', Same H H' → Q (upV (eldUp gs ns)) H'
theorem ok_eldest_upset (A : At K mg "eldest_upset" P_eldest_upset s_eldest_upset) (B : Bi mg) : Df P w K mg base 1 "eldest_upset" P_eldest_upset s_eldest_upset sp_eldest_upset := by
  refine A.df fun f fd F => F.ok sc_eldest_upset (fun vs H Q E h => ?_) (fun cdv AA outer s H vs Q E hr h => ?_)
  · obtain ⟨_, _, _, _, rfl, _⟩ := h
    rfl
  · obtain ⟨d, o, ns, gs, rfl, hd, ho, hm, hn, hl, q⟩ := h
    have nd := sc_eldest_upset.nd
    refine ⟨_, (pss_cons (ps_for PassesOwn.never rfl (pi_enum (by rfl) B.enumerate (pa_cons (pe_callBK (cr_sortedRev (b := true)) (by rfl) B.sorted (by decide +kernel) (pa_cons (pv 1) pa_nil) (pk_cons pe_bl pk_nil)) pa_nil)) (pg_tup (by rfl) (pgs_cons (pg_name (i := 2) nd rfl (.inl rfl)) (pgs_cons (pg_name (i := 3) nd rfl (.inl rfl)) pgs_nil))) (pss_one (ps_if (pt_cmpR op_gt (pv 2) (pe_dget (hu_of hr) (pv 0) (pv 3) (fun _ _ => rfl)) (nomark _)) (pss_one (ps_ret (pv 3))) pss_nil)))
    (pss_one (ps_ret pe_non))), ?_⟩
    refine ⟨.ref o, rfl, o, ns, rfl, rfl, SqL.of ho, fun ms p hp hs np => ?_⟩
    have hms : ms = down ns := down_is hp hs
    subst hms
    refine ⟨p, _, rfl, SqL.of upd_same, ?_⟩
    have sm1 : Same H (upd H p (.lst ((down ns).map V.int))) := same_new np
    have ep : upd H p (.lst ((down ns).map V.int)) p = some (.lst ((down ns).map V.int)) := upd_same
    revert sm1 ep
    generalize upd H p (.lst ((down ns).map V.int)) = H1
    intro sm1 ep
    refine for_it (walk_enum (xs := (down ns).map V.int)) (fun i σ H2 => ∃ y2 y3, σ = [some (.ref d), some (.ref o), y2, y3] ∧ Same H1 H2 ∧ ∀ (j : Nat) (b : Int), j < i → (down ns)[j]? = some b → (j : Int) ≤ pof gs b)
      ⟨none, none, rfl, Same.refl _, fun j b h => absurd h (Nat.not_lt_zero _)⟩ (fun i σ H2 _ hW => ?_) (fun i x σ H2 H3 hi hW hY => ?_) (fun σ H2 hW => ?_)
    · obtain ⟨_, _, _, sm, _⟩ := hW
      exact SqL.of (sm _ _ ep)
    · obtain ⟨y2, y3, rfl, sm, hb⟩ := hW
      obtain ⟨T, x1, x2, rfl, nT, rfl, f1, f2⟩ := hY
      obtain rfl : V.int ↑i = x1 := Option.some.inj f1
      obtain ⟨a, ea, rfl⟩ := ints_at f2
      have s3 : Same H2 (upd H2 T (.tup [.int i, .int a])) := same_new nT
      refine ⟨T, [.int i, .int a], rfl, SqT.of upd_same, rfl, .int i, [.int a], rfl, .int a, [], rfl, rfl, ?_⟩
      have sm3 : Same H (upd H2 T (.tup [.int i, .int a])) := sm1.trans (sm.trans s3)
      have ha : a ∈ gs.map (·.1) := hm a ((down_perm ns).mem_iff.mp (List.mem_of_getElem? ea))
      refine ⟨.int i, rfl, .ref d, rfl, .int a, rfl, d, _, rfl, dget_pof (sm3 _ _ hd) hn ha, _, _, rfl, rfl, _, rfl, ite2 (fun e => ?_) (fun e => ?_)⟩
      · have e := of_decide_eq_true e
        have hu : eldUp gs ns = some a := upIn_at ea (fun j b hj eb => by have := hb j b hj eb; omega) (by omega)
        have z := q _ sm3
        rw [hu] at z
        exact ⟨.int a, rfl, z⟩
      · have e : ¬ (pof gs a < (i : Int)) := fun z => e (decide_eq_true z)
        refine ⟨_, _, rfl, sm.trans s3, fun j b hj eb => ?_⟩
        by_cases h : j < i
        · exact hb j b h eb
        · have : j = i := by omega
          subst this
          obtain rfl : a = b := Option.some.inj (ea.symm.trans eb)
          omega
    · obtain ⟨y2, y3, rfl, sm, hb⟩ := hW
      have hu : eldUp gs ns = none := upIn_none fun i a e => by
        have := hb i a (by rw [List.length_map]; exact at_lt e) e
        omega
      have z := q _ (sm1.trans sm)
      rw [hu] at z
      exact z
end
end El
namespace El
open PySem PySem.Spec PyProof.Rows L2
theorem iteFx {c : Bool} {A B : Prop} (hc : c = false) (h : B) : if c = true then A else B := by
  rw [hc]
  exact iteF h
theorem iteTx {c : Bool} {A B : Prop} (hc : c = true) (h : A) : if c = true then A else B := by
  rw [hc]
  exact iteT h
section
variable {P : Program} {w : World} {K : PySem.W.Frag} {mg : Str → Option Value} {base : Heap}
abbrev s_upset : Stmt := topS 14
abbrev N_upset : List Str := ["guests", "arrangement", "patience_of", "number", "room", "age"]
abbrev P_upset : List Str := ["guests", "arrangement"]
theorem sc_upset : FnScope N_upset P_upset (defScope s_upset) := ⟨rfl, rfl, rfl, by decide +kernel, rfl, by decide +kernel, by decide +kernel⟩
def sp_upset : Sp := fun vs H Q _ => ∃ (BB : Addr → Prop) (a o : Addr) (ts us : List Addr) (gs : List (Int × Int)) (rs : List (List Int)), vs = [.ref a, .ref o] ∧ GsAt H BB a ts gs ∧ Fit gs ∧ gs.length ≤ 1000 ∧ RdAt H o us rs ∧ rs.flatten.Perm (gs.map (·.1)) ∧
  (upsetOf gs rs 0 = none → ∀ H', Same H H' → Q .non H') ∧ (∀ i x, upsetOf gs rs 0 = some (i, x) → ∀ H' t, Same H H' → H t = none → H' t = some (.tup [.int (i : Nat), .int x]) → Q (.ref t) H')
theorem ok_upset (A : At K mg "upset" P_upset s_upset) (B : Bi mg) (D_patience_by_age : Df P w K mg base 1 "patience_by_age" P_patience_by_age s_patience_by_age sp_patience_by_age)
    (D_check_arrangement : Df P w K mg base 1 "check_arrangement" P_check_arrangement s_check_arrangement sp_check_arrangement) (D_eldest_upset : Df P w K mg base 1 "eldest_upset" P_eldest_upset s_eldest_upset sp_eldest_upset) : Df P w K mg base 2 "upset" P_upset s_upset sp_upset := by
  refine A.df fun f fd F => F.ok sc_upset (fun vs H Q E h => ?_) (fun cdv AA outer s H vs Q E hr h => ?_)
  · obtain ⟨_, _, _, _, _, _, _, rfl, _⟩ := h
    rfl
  · obtain ⟨BB, a, o, ts, us, gs, rs, rfl, hG, hF, hl, hR, hp, q1, q2⟩ := h
    have nd := sc_upset.nd
    refine ⟨_, (pss_cons (ps_set (i := 2) nd rfl (.inl rfl) (pe_df D_patience_by_age (hr.mono (by decide)) (by rfl) (pa_cons (pv 0) pa_nil)))
    (pss_cons (ps_expr (pe_df D_check_arrangement (hr.mono (by decide)) (by rfl) (pa_cons (pv 2) (pa_cons (pv 1) pa_nil))))
    (pss_cons (ps_for PassesOwn.never rfl (pi_enum (by rfl) B.enumerate (pa_cons (pv 1) pa_nil)) (pg_tup (by rfl) (pgs_cons (pg_name (i := 3) nd rfl (.inl rfl)) (pgs_cons (pg_name (i := 4) nd rfl (.inl rfl)) pgs_nil))) (pss_cons (ps_set (i := 5) nd rfl (.inl rfl) (pe_df D_eldest_upset (hr.mono (by decide)) (by rfl) (pa_cons (pv 2) (pa_cons (pv 4) pa_nil)))) (pss_one (ps_if (pt_cmpR op_notN (pv 5) pe_non (nomark _)) (pss_one (ps_ret (pe_tup (pa_cons (pv 3) (pa_cons (pv 5) pa_nil))))) pss_nil))))
    (pss_one (ps_ret pe_non))))), ?_⟩
    refine ⟨.ref a, rfl, BB, a, ts, gs, rfl, hG, hF, hl, fun H1 d s1 n1 e1 => ?_⟩
    refine ⟨.ref d, rfl, .ref o, rfl, d, o, us, rs, gs, rfl, e1, hR.same s1, hp, hF.nd, hl, fun H2 s2 => ?_⟩
    have s02 := s1.trans s2
    refine ⟨.ref o, rfl, o, us.map V.ref, rfl, (hR.same s02).seq, ?_⟩
    refine for_it (walk_enum (xs := us.map V.ref)) (fun i σ H3 => ∃ y3 y4 y5, σ = [some (.ref a), some (.ref o), some (.ref d), y3, y4, y5] ∧ Same H2 H3 ∧ ∀ (j : Nat) (s : List Int), j < i → rs[j]? = some s → eldUp gs s = none)
      ⟨none, none, none, rfl, Same.refl _, fun j s h => absurd h (Nat.not_lt_zero _)⟩ (fun i σ H3 _ hW => ?_) (fun i x σ H3 H4 hi hW hY => ?_) (fun σ H3 hW => ?_)
    · obtain ⟨_, _, _, _, sm, _⟩ := hW
      exact (hR.same (s02.trans sm)).seq
    · obtain ⟨y3, y4, y5, rfl, sm, hb⟩ := hW
      obtain ⟨T, x1, x2, rfl, nT, rfl, f1, f2⟩ := hY
      obtain rfl : V.int ↑i = x1 := Option.some.inj f1
      obtain ⟨t, r, rfl, _, er, et⟩ := (hR.same (s02.trans sm)).get f2
      have s3 : Same H3 (upd H3 T (.tup [.int i, .ref t])) := same_new nT
      refine ⟨T, [.int i, .ref t], rfl, SqT.of upd_same, rfl, .int i, [.ref t], rfl, .ref t, [], rfl, rfl, ?_⟩
      have sm3 : Same H (upd H3 T (.tup [.int i, .ref t])) := s02.trans (sm.trans s3)
      have hd3 := (sm.trans s3) _ _ (s2 _ _ e1)
      refine ⟨.ref d, rfl, .ref t, rfl, d, t, r, gs, rfl, hd3, s3 _ _ et, fun b hb => hp.mem_iff.mp (List.mem_flatten.mpr ⟨r, List.mem_of_getElem? er, hb⟩), hF.nd, ?_, fun H5 s5 => ?_⟩
      · have h1 := room_le_flat rs r (List.mem_of_getElem? er)
        have h2 := hp.length_eq
        rw [List.length_map] at h2
        omega
      · have sm5 : Same H H5 := sm3.trans s5
        cases hu : eldUp gs r with
        | none =>
          refine ⟨_, rfl, rfl, _, rfl, iteFx (by show (!decide (V.non = V.non)) = false; simp) ?_⟩
          refine ⟨_, _, _, rfl, sm.trans (s3.trans s5), fun j s hj es => ?_⟩
          by_cases h : j < i
          · exact hb j s h es
          · have : j = i := by omega
            subst this
            obtain rfl : r = s := Option.some.inj (er.symm.trans es)
            exact hu
        | some b =>
          refine ⟨_, rfl, rfl, _, rfl, iteTx (by show (!decide (V.int b = V.non)) = true; simp) ?_⟩
          refine ⟨.int i, rfl, .int b, rfl, (by show 2 ≤ sizeLine; decide), fun p np => ?_⟩
          have z := upsetOf_at (k := 0) er hb hu
          exact q2 i b z _ p (sm5.trans (same_new np)) (sm5.free np) upd_same
    · obtain ⟨y3, y4, y5, rfl, sm, hb⟩ := hW
      refine q1 (upsetOf_none fun s ms => ?_) _ (s02.trans sm)
      obtain ⟨j, ej⟩ := List.mem_iff_getElem?.mp ms
      refine hb j s ?_ ej
      rw [List.length_map, hR.len]
      exact at_lt ej
end
end El
namespace El
open PySem PySem.Spec PyProof.Rows L2
section
variable {P : Program} {w : World} {K : PySem.W.Frag} {mg : Str → Option Value} {base : Heap}
abbrev s__law_ages : Stmt := topS 20
abbrev N__law_ages : List Str := ["tray", "many", "here", "far", "found", "k"]
abbrev P__law_ages : List Str := ["tray", "many"]
theorem sc__law_ages : FnScope N__law_ages P__law_ages (defScope s__law_ages) := ⟨rfl, rfl, rfl, by decide +kernel, rfl, by decide +kernel, by decide +kernel⟩
def sp__law_ages : Sp := fun vs H Q _ => ∃ (t g : Addr) (n many : Nat), vs = [.ref t, .int (many : Int)] ∧ Tray H t g n ∧ many ≤ 60 ∧ n ≤ 900000000 ∧
  ∀ H' o (ns : List Int), Kp (Off t g) H H' → Tray H' t g (n + 200) → H o = none → H' o = some (.lst (ns.map V.int)) → ns.length = many → ns.Nodup → Q (.ref o) H'
theorem ok__law_ages (A : At K mg "_law_ages" P__law_ages s__law_ages) (B : Bi mg) (D__law_draw : Df P w K mg base 1 "_law_draw" P__law_draw s__law_draw sp__law_draw)
    (D__law_shuffled : Df P w K mg base 2 "_law_shuffled" P__law_shuffled s__law_shuffled (sp__law_shuffled K)) : Df P w K mg base 3 "_law_ages" P__law_ages s__law_ages sp__law_ages := by
  refine A.df fun f fd F => F.ok sc__law_ages (fun vs H Q E h => ?_) (fun cdv AA outer s H vs Q E hr h => ?_)
  · obtain ⟨_, _, _, _, rfl, _⟩ := h
    rfl
  · obtain ⟨t, g, n, many, rfl, hT, hm, hn, q⟩ := h
    have nd := sc__law_ages.nd
    refine ⟨_, (pss_cons (ps_set (i := 2) nd rfl (.inl rfl) (pe_ix ix_list (pe_lst (pa_cons (pe_op op_sub (pe_df D__law_draw (hr.mono (by decide)) (by rfl) (pa_cons (pv 0) (pa_cons pe_int pa_nil))) pe_int) (pa_cons (pe_op op_sub (pe_df D__law_draw (hr.mono (by decide)) (by rfl) (pa_cons (pv 0) (pa_cons (pe_op op_pow pe_int pe_int) pa_nil))) (pe_op op_mul pe_int (pe_op op_pow pe_int pe_int))) pa_nil))) (pe_df D__law_draw (hr.mono (by decide)) (by rfl) (pa_cons (pv 0) (pa_cons pe_int pa_nil))) (fun _ _ => rfl)))
    (pss_cons (ps_set (i := 3) nd rfl (.inl rfl) (pe_ix ix_list (pe_lst (pa_cons pe_int (pa_cons pe_int (pa_cons (pe_op op_pow pe_int pe_int) pa_nil)))) (pe_df D__law_draw (hr.mono (by decide)) (by rfl) (pa_cons (pv 0) (pa_cons pe_int pa_nil))) (fun _ _ => rfl)))
    (pss_cons (ps_set (i := 4) nd rfl (.inl rfl) (pe_lst pa_nil))
    (pss_cons (ps_for PassesOwn.never rfl (pi_range1 (by rfl) B.range (pa_cons (pv 1) pa_nil)) (pg_name (i := 5) nd rfl (.inl rfl)) (pss_cons (ps_set (i := 2) nd rfl (.inl rfl) (pe_op op_add (pe_op op_add (pv 2) pe_int) (pe_df D__law_draw (hr.mono (by decide)) (by rfl) (pa_cons (pv 0) (pa_cons (pv 3) pa_nil))))) (pss_one (ps_expr (pe_bm PySem.F.plainAttrs_list PySem.F.slot_list_append PySem.F.type_list_append mt_append (pv 4) (pa_cons (pv 2) pa_nil))))))
    (pss_one (ps_ret (pe_df D__law_shuffled (hr.mono (by decide)) (by rfl) (pa_cons (pv 0) (pa_cons (pv 4) pa_nil))))))))), ?_⟩
    -- here
    refine ⟨.ref t, rfl, t, g, n, 30, rfl, hT, by omega, by decide, by decide, fun H1 r1 k1 T1 a1 b1 => ?_⟩
    refine ⟨_, _, rfl, rfl, .ref t, rfl, _, _, rfl, rfl, ⟨by decide, by decide, by decide⟩, t, g, n + 1, _, rfl, T1, by omega, by decide, by decide, fun H2 r2 k2 T2 a2 b2 => ?_⟩
    refine ⟨_, _, rfl, rfl, ⟨by decide, by decide, by decide⟩, _, _, rfl, rfl, .inl ⟨by decide, by decide⟩, _, _, rfl, rfl, (by show 2 ≤ sizeLine; decide), fun p np => ?_⟩
    have op : Off t g p := T2.off np
    refine ⟨.ref t, rfl, t, g, n + 2, 2, rfl, T2.mut op, by omega, by decide, by decide, fun H3 r3 k3 T3 a3 b3 => ?_⟩
    obtain ⟨v, hv, mv⟩ := at_pick (xs := [V.int (r1 - 15), .int (r2 - 5 * 10 ^ Int.toNat 28)]) a3 b3
    refine ⟨p, _, _, v, rfl, rfl, SqL.of (k3 _ _ op upd_same), hv, ?_⟩
    have kA : Kp (Off t g) H H3 := (k1.trans k2).trans ((Kp.of (same_new np)).trans k3)
    obtain ⟨here, rfl⟩ : ∃ i, v = .int i := by
      rcases List.mem_cons.mp mv with e | mv
      · exact ⟨_, e⟩
      · exact ⟨_, List.mem_singleton.mp mv⟩
    -- far
    refine ⟨_, _, rfl, rfl, ⟨by decide, by decide, by decide⟩, (by show 3 ≤ sizeLine; decide), fun p' np' => ?_⟩
    have op' : Off t g p' := T3.off np'
    refine ⟨.ref t, rfl, t, g, n + 3, 3, rfl, T3.mut op', by omega, by decide, by decide, fun H4 r4 k4 T4 a4 b4 => ?_⟩
    obtain ⟨v, hv', mv'⟩ := at_pick (xs := [V.int 1, .int 9, .int (10 ^ Int.toNat 27)]) a4 b4
    refine ⟨p', _, _, v, rfl, rfl, SqL.of (k4 _ _ op' upd_same), hv', ?_⟩
    have kB : Kp (Off t g) H H4 := kA.trans ((Kp.of (same_new np')).trans k4)
    obtain ⟨far, rfl, f0, f1⟩ : ∃ i : Int, v = .int i ∧ 0 < i ∧ i < 2 ^ 200 := by
      rcases List.mem_cons.mp mv' with e | mv'
      · exact ⟨_, e, by decide, by decide⟩
      · rcases List.mem_cons.mp mv' with e | mv'
        · exact ⟨_, e, by decide, by decide⟩
        · exact ⟨_, List.mem_singleton.mp mv', by decide, by decide⟩
    -- found = []
    refine ⟨Nat.zero_le _, fun o no => ?_⟩
    have oo : Off t g o := T4.off no
    have no0 : H o = none := kB.none oo no
    -- the loop
    refine ⟨_, rfl, _, rfl, by omega, by omega, ?_⟩
    refine for_it (walk_range (n := ((many : Int)).toNat)) (fun i σ H5 => ∃ (h : Int) (ns : List Int) (y5 : Option V), σ = [some (.ref t), some (.int (many : Int)), some (.int h), some (.int far), some (.ref o), y5] ∧ Kp (Off t g) H H5 ∧ Tray H5 t g (n + 4 + i) ∧ H5 o = some (.lst (ns.map V.int)) ∧ ns.length = i ∧ ns.Pairwise (· < ·) ∧ ∀ x ∈ ns, x ≤ h)
      ⟨here, [], none, rfl, kB.new no, T4.mut oo, upd_same, rfl, List.Pairwise.nil, fun x h => absurd h (by simp)⟩ (fun _ _ _ _ _ => trivial) (fun i x σ H5 H6 hi hW hY => ?_) (fun σ H5 hW => ?_)
    · obtain ⟨h, ns, y5, rfl, kp, T5, e5, hl, pw, hx⟩ := hW
      obtain ⟨rfl, rfl⟩ := hY
      have hi' : i < many := by omega
      refine ⟨.int h, rfl, _, _, rfl, rfl, .ref t, rfl, .int far, rfl, t, g, n + 4 + i, far, rfl, T5, by omega, f0, f1, fun H7 r7 k7 T7 a7 b7 => ?_⟩
      refine ⟨_, _, rfl, rfl, .ref o, rfl, .inl ⟨rfl, _, SqL.of (k7 _ _ oo e5)⟩, _, rfl, o, _, _, rfl, rfl, k7 _ _ oo e5, ils (by rw [List.length_map]; omega), ?_⟩
      refine ⟨h + 1 + r7, ns ++ [h + 1 + r7], _, rfl, Kp.mutF (kp.trans k7) no0, T7.mut oo, by rw [upd_same, List.map_append]; rfl, by rw [List.length_append, hl]; rfl, ?_, fun x m => ?_⟩
      · rw [List.pairwise_append]
        refine ⟨pw, List.pairwise_singleton _ _, fun x m y my => ?_⟩
        rw [List.mem_singleton.mp my]
        have := hx x m
        omega
      · rcases List.mem_append.mp m with m | m
        · have := hx x m
          omega
        · rw [List.mem_singleton.mp m]
          exact Int.le_refl _
    · obtain ⟨h, ns, y5, rfl, kp, T5, e5, hl, pw, hx⟩ := hW
      have hl' : ns.length = many := by omega
      refine ⟨.ref t, rfl, .ref o, rfl, t, g, _, o, _, rfl, T5, SqL.of e5, by rw [List.length_map]; omega, by rw [List.length_map]; omega, fun H8 o' ys k8 T8 no' e8 pm => ?_⟩
      obtain ⟨ms, rfl⟩ : ∃ ms : List Int, ys = ms.map V.int := by
        have : ∀ y ∈ ys, ∃ i, y = V.int i := fun y m => by
          obtain ⟨i, _, rfl⟩ := List.mem_map.mp (pm.mem_iff.mp m)
          exact ⟨i, rfl⟩
        clear pm e8
        induction ys with
        | nil => exact ⟨[], rfl⟩
        | cons y ys ih =>
          obtain ⟨i, rfl⟩ := this y List.mem_cons_self
          obtain ⟨ms, rfl⟩ := ih fun z m => this z (List.mem_cons_of_mem _ m)
          exact ⟨i :: ms, rfl⟩
      have pm' : ms.Perm ns := by
        have := pm.map (fun v : V => match v with | .int i => i | _ => 0)
        rw [List.map_map, List.map_map] at this
        simpa [Function.comp_def] using this
      have oo' : Off t g o' := T5.off no'
      refine q H8 o' ms (kp.trans k8) (T8.more (by rw [List.length_map]; omega)) (kp.none oo' no') e8 (by rw [pm'.length_eq, hl']) (pm'.nodup_iff.mpr ?_)
      exact pw.imp fun h => Int.ne_of_lt h
end
end El
namespace El
open PySem PySem.Spec PyProof.Rows L2
section
variable {P : Program} {w : World} {K : PySem.W.Frag} {mg : Str → Option Value} {base : Heap}
abbrev s__law_patience : Stmt := topS 21
abbrev N__law_patience : List Str := ["tray", "lot", "many", "some"]
abbrev P__law_patience : List Str := ["tray", "lot", "many"]
theorem sc__law_patience : FnScope N__law_patience P__law_patience (defScope s__law_patience) := ⟨rfl, rfl, rfl, by decide +kernel, rfl, by decide +kernel, by decide +kernel⟩
def sp__law_patience : Sp := fun vs H Q _ => ∃ (t g : Addr) (n many : Nat) (lot : Int), vs = [.ref t, .int lot, .int (many : Int)] ∧ Tray H t g n ∧ many ≤ 60 ∧ n ≤ 900000000 ∧ 0 ≤ lot ∧ lot ≤ 5 ∧
  ∀ H' (p : Int), Kp (Off t g) H H' → Tray H' t g (n + 5) → 0 ≤ p → Q (.int p) H'
theorem ok__law_patience (A : At K mg "_law_patience" P__law_patience s__law_patience) (B : Bi mg) (D__law_draw : Df P w K mg base 1 "_law_draw" P__law_draw s__law_draw sp__law_draw) : Df P w K mg base 2 "_law_patience" P__law_patience s__law_patience sp__law_patience := by
  refine A.df fun f fd F => F.ok sc__law_patience (fun vs H Q E h => ?_) (fun cdv AA outer s H vs Q E hr h => ?_)
  · obtain ⟨_, _, _, _, _, rfl, _⟩ := h
    rfl
  · obtain ⟨t, g, n, many, lot, rfl, hT, hm, hn, l0, l5, q⟩ := h
    have nd := sc__law_patience.nd
    refine ⟨_, (pss_cons (ps_set (i := 3) nd rfl (.inl rfl) (pe_lst (pa_cons pe_int (pa_cons (pe_df D__law_draw (hr.mono (by decide)) (by rfl) (pa_cons (pv 0) (pa_cons pe_int pa_nil))) (pa_cons (pe_df D__law_draw (hr.mono (by decide)) (by rfl) (pa_cons (pv 0) (pa_cons pe_int pa_nil))) (pa_cons (pe_df D__law_draw (hr.mono (by decide)) (by rfl) (pa_cons (pv 0) (pa_cons (pe_op op_add (pv 2) pe_int) pa_nil))) (pa_cons (pe_op op_sub (pe_op op_sub (pe_op op_pow pe_int pe_int) pe_int) (pe_df D__law_draw (hr.mono (by decide)) (by rfl) (pa_cons (pv 0) (pa_cons pe_int pa_nil)))) pa_nil)))))))
    (pss_one (ps_ret (pe_ix ix_list (pv 3) (pe_ifExp (pt_cmpR op_lt (pv 1) pe_int (nomark _)) (pv 1) (pe_ix ix_list (pe_lst (pa_cons pe_int (pa_cons pe_int (pa_cons pe_int (pa_cons pe_int (pa_cons pe_int (pa_cons pe_int pa_nil))))))) (pe_df D__law_draw (hr.mono (by decide)) (by rfl) (pa_cons (pv 0) (pa_cons pe_int pa_nil))) (fun _ _ => rfl))) (fun _ _ => rfl))))), ?_⟩
    refine ⟨.ref t, rfl, t, g, n, 3, rfl, hT, by omega, by decide, by decide, fun H1 r1 k1 T1 a1 b1 => ?_⟩
    refine ⟨.ref t, rfl, t, g, n + 1, 8, rfl, T1, by omega, by decide, by decide, fun H2 r2 k2 T2 a2 b2 => ?_⟩
    refine ⟨.ref t, rfl, _, rfl, _, _, rfl, rfl, t, g, n + 2, _, rfl, T2, by omega, by omega, ?_, fun H3 r3 k3 T3 a3 b3 => ?_⟩
    · exact Int.lt_of_le_of_lt (show (many : Int) + 2 ≤ 62 by omega) (by decide)
    · refine ⟨_, _, rfl, rfl, ⟨by decide, by decide, by decide⟩, _, _, rfl, rfl, .ref t, rfl, t, g, n + 3, 9, rfl, T3, by omega, by decide, by decide, fun H4 r4 k4 T4 a4 b4 => ?_⟩
      refine ⟨_, _, rfl, rfl, (by show 5 ≤ sizeLine; decide), fun p np => ?_⟩
      have op : Off t g p := T4.off np
      have kA : Kp (Off t g) H (upd H4 p (.lst [.int 0, .int r1, .int r2, .int r3, .int (10 ^ Int.toNat 30 - 1 - r4)])) := (((k1.trans k2).trans k3).trans k4).new np
      have TA := T4.mut (o := .lst [.int 0, .int r1, .int r2, .int r3, .int (10 ^ Int.toNat 30 - 1 - r4)]) op
      have eA : upd H4 p (.lst [.int 0, .int r1, .int r2, .int r3, .int (10 ^ Int.toNat 30 - 1 - r4)]) p = some (.lst [.int 0, .int r1, .int r2, .int r3, .int (10 ^ Int.toNat 30 - 1 - r4)]) := upd_same
      have fin : ∀ {H5 : Hp} {i : Int}, 0 ≤ i → i < 5 → Kp (Off t g) H H5 → Tray H5 t g (n + 5) → H5 p = some (.lst [.int 0, .int r1, .int r2, .int r3, .int (10 ^ Int.toNat 30 - 1 - r4)]) → rIxL K (.ref p) (.int i) H5 Q := by
        intro H5 i i0 i5 k5 T5 e5
        obtain ⟨v, hv, mv⟩ := at_pick (xs := [V.int 0, .int r1, .int r2, .int r3, .int (10 ^ Int.toNat 30 - 1 - r4)]) i0 i5
        refine ⟨p, _, _, v, rfl, rfl, SqL.of e5, hv, ?_⟩
        have e30 : (10 : Int) ^ Int.toNat 30 = 1000000000000000000000000000000 := by decide
        rcases List.mem_cons.mp mv with rfl | mv
        · exact q _ _ k5 T5 (by decide)
        rcases List.mem_cons.mp mv with rfl | mv
        · exact q _ _ k5 T5 a1
        rcases List.mem_cons.mp mv with rfl | mv
        · exact q _ _ k5 T5 a2
        rcases List.mem_cons.mp mv with rfl | mv
        · exact q _ _ k5 T5 a3
        rw [List.mem_singleton.mp mv]
        exact q _ _ k5 T5 (by omega)
      refine ⟨.ref p, rfl, .int lot, rfl, _, _, rfl, rfl, _, rfl, ite2 (fun e => ?_) (fun e => ?_)⟩
      · have e : lot < 5 := of_decide_eq_true e
        exact ⟨.int lot, rfl, fin l0 e kA (TA.more (Nat.le_succ _)) eA⟩
      · refine ⟨(by show 6 ≤ sizeLine; decide), fun p' np' => ?_⟩
        have op' : Off t g p' := TA.off np'
        refine ⟨.ref t, rfl, t, g, n + 4, 6, rfl, TA.mut op', by omega, by decide, by decide, fun H6 r6 k6 T6 a6 b6 => ?_⟩
        obtain ⟨v, hv, mv⟩ := at_pick (xs := [V.int 1, .int 1, .int 2, .int 3, .int 4, .int 0]) a6 b6
        refine ⟨p', _, _, v, rfl, rfl, SqL.of (k6 _ _ op' upd_same), hv, ?_⟩
        have k7 : Kp (Off t g) H H6 := kA.trans ((Kp.of (same_new np')).trans k6)
        have e7 := k6 _ _ op (by rw [upd_ne (no_of eA np').symm]; exact eA)
        have mv' : ∃ i : Int, v = .int i ∧ 0 ≤ i ∧ i < 5 := by
          rcases List.mem_cons.mp mv with rfl | mv
          · exact ⟨_, rfl, by decide, by decide⟩
          rcases List.mem_cons.mp mv with rfl | mv
          · exact ⟨_, rfl, by decide, by decide⟩
          rcases List.mem_cons.mp mv with rfl | mv
          · exact ⟨_, rfl, by decide, by decide⟩
          rcases List.mem_cons.mp mv with rfl | mv
          · exact ⟨_, rfl, by decide, by decide⟩
          rcases List.mem_cons.mp mv with rfl | mv
          · exact ⟨_, rfl, by decide, by decide⟩
          rw [List.mem_singleton.mp mv]
          exact ⟨_, rfl, by decide, by decide⟩
        obtain ⟨i, rfl, i0, i5⟩ := mv'
        exact fin i0 i5 k7 T6 e7
end
end El
namespace El
open PySem PySem.Spec PyProof.Rows L2
section
variable {P : Program} {w : World} {K : PySem.W.Frag} {mg : Str → Option Value} {base : Heap}
abbrev s__law_guests : Stmt := topS 22
abbrev N__law_guests : List Str := ["tray", "most", "many", "lot", "age"]
abbrev P__law_guests : List Str := ["tray", "most"]
theorem sc__law_guests : FnScope N__law_guests P__law_guests (defScope s__law_guests) := ⟨rfl, rfl, rfl, by decide +kernel, rfl, by decide +kernel, by decide +kernel⟩
def sp__law_guests : Sp := fun vs H Q _ => ∃ (t g : Addr) (n most : Nat), vs = [.ref t, .int (most : Int)] ∧ Tray H t g n ∧ most ≤ 60 ∧ n ≤ 800000000 ∧
  ∀ H' o ts gs, Kp (Off t g) H H' → Tray H' t g (n + 600) → GsAt H' (fun b => H b = none) o ts gs → o ∉ ts → Fit gs → gs.length ≤ most → Q (.ref o) H'
theorem ok__law_guests (A : At K mg "_law_guests" P__law_guests s__law_guests) (B : Bi mg) (D__law_draw : Df P w K mg base 1 "_law_draw" P__law_draw s__law_draw sp__law_draw)
    (D__law_ages : Df P w K mg base 3 "_law_ages" P__law_ages s__law_ages sp__law_ages) (D__law_patience : Df P w K mg base 2 "_law_patience" P__law_patience s__law_patience sp__law_patience) : Df P w K mg base 4 "_law_guests" P__law_guests s__law_guests sp__law_guests := by
  refine A.df fun f fd F => F.ok sc__law_guests (fun vs H Q E h => ?_) (fun cdv AA outer s H vs Q E hr h => ?_)
  · obtain ⟨_, _, _, _, rfl, _⟩ := h
    rfl
  · obtain ⟨t, g, n, most, rfl, hT, hm, hn, q⟩ := h
    have nd := sc__law_guests.nd
    refine ⟨_, (pss_cons (ps_set (i := 2) nd rfl (.inr rfl) (pe_df D__law_draw (hr.mono (by decide)) (by rfl) (pa_cons (pv 0) (pa_cons (pe_op op_add (pv 1) pe_int) pa_nil))))
    (pss_cons (ps_set (i := 3) nd rfl (.inr rfl) (pe_ix ix_list (pe_lst (pa_cons pe_int (pa_cons pe_int (pa_cons pe_int (pa_cons pe_int (pa_cons pe_int (pa_cons pe_int (pa_cons pe_int (pa_cons pe_int pa_nil))))))))) (pe_df D__law_draw (hr.mono (by decide)) (by rfl) (pa_cons (pv 0) (pa_cons pe_int pa_nil))) (fun _ _ => rfl)))
    (pss_one (ps_ret (pe_lc (own := [("age", 4)]) (tt := tYes) rfl nd (pi_list (pe_df D__law_ages (hr.mono (by decide)) (by rfl) (pa_cons (pv 0) (pa_cons (pv 2) pa_nil)))) (blkOk_by (N := N__law_guests) (sc := defScope s__law_guests) (by decide +kernel)) (fun _ _ _ _ _ => (pg_name (i := 4) nd rfl (.inl rfl))) (fun _ _ _ _ _ => pts_nil) (fun _ _ _ _ _ => (pe_tup (pa_cons (pv 4) (pa_cons (pe_df D__law_patience (hr.mono (by decide)) (by rfl) (pa_cons (pv 0) (pa_cons (pv 3) (pa_cons (pv 2) pa_nil)))) pa_nil))))))))), ?_⟩
    refine ⟨.ref t, rfl, _, rfl, _, _, rfl, rfl, t, g, n, _, rfl, hT, by omega, by omega, ?_, fun H1 r1 k1 T1 a1 b1 => ?_⟩
    · exact Int.lt_of_le_of_lt (show (most : Int) + 1 ≤ 61 by omega) (by decide)
    obtain ⟨many, rfl⟩ : ∃ k : Nat, r1 = k := ⟨r1.toNat, by omega⟩
    have hmany : many ≤ most := by omega
    -- lot
    refine ⟨(by show 8 ≤ sizeLine; decide), fun p np => ?_⟩
    have op : Off t g p := T1.off np
    refine ⟨.ref t, rfl, t, g, n + 1, 8, rfl, T1.mut op, by omega, by decide, by decide, fun H2 r2 k2 T2 a2 b2 => ?_⟩
    obtain ⟨v, hv, mv⟩ := at_pick (xs := [V.int 0, .int 1, .int 2, .int 3, .int 4, .int 5, .int 5, .int 5]) a2 b2
    refine ⟨p, _, _, v, rfl, rfl, SqL.of (k2 _ _ op upd_same), hv, ?_⟩
    have mv' : ∃ i : Int, v = .int i ∧ 0 ≤ i ∧ i ≤ 5 := by
      rcases List.mem_cons.mp mv with rfl | mv
      · exact ⟨_, rfl, by decide, by decide⟩
      rcases List.mem_cons.mp mv with rfl | mv
      · exact ⟨_, rfl, by decide, by decide⟩
      rcases List.mem_cons.mp mv with rfl | mv
      · exact ⟨_, rfl, by decide, by decide⟩
      rcases List.mem_cons.mp mv with rfl | mv
      · exact ⟨_, rfl, by decide, by decide⟩
      rcases List.mem_cons.mp mv with rfl | mv
      · exact ⟨_, rfl, by decide, by decide⟩
      rcases List.mem_cons.mp mv with rfl | mv
      · exact ⟨_, rfl, by decide, by decide⟩
      rcases List.mem_cons.mp mv with rfl | mv
      · exact ⟨_, rfl, by decide, by decide⟩
      rw [List.mem_singleton.mp mv]
      exact ⟨_, rfl, by decide, by decide⟩
    obtain ⟨lot, rfl, l0, l5⟩ := mv'
    have kA : Kp (Off t g) H H2 := k1.trans ((Kp.of (same_new np)).trans k2)
    -- the ages
    refine ⟨.ref t, rfl, _, rfl, t, g, n + 2, many, rfl, T2, by omega, by omega, fun H3 o ns k3 T3 no e3 hl hnd => ?_⟩
    refine ⟨o, rfl, ⟨_, SqL.of e3⟩, fun D nD => ?_⟩
    have oD : Off t g D := T3.off nD
    have oo : Off t g o := T2.off no
    have kB : Kp (Off t g) H H3 := kA.trans k3
    have hDo : o ≠ D := ne_of_none e3 nD
    have nD0 : H D = none := kB.none oD nD
    refine lc_it (walk_list (xs := ns.map V.int)) (fun i H4 => ∃ ts gs, Kp (Off t g) H H4 ∧ H4 o = some (.lst (ns.map V.int)) ∧ GsAt H4 (fun b => H b = none) D ts gs ∧ D ∉ ts ∧ gs.map (·.1) = ns.take i ∧ (∀ g ∈ gs, 0 ≤ g.2) ∧ Tray H4 t g (n + 202 + 5 * i))
      ⟨[], [], kB.new nD, by rw [upd_ne hDo]; exact e3, ⟨upd_same, nD0, rfl, fun i t g e _ => by simp at e, fun t m => by simp at m⟩, by simp, rfl, fun g m => by simp at m, T3.mut oD⟩ (fun i H4 _ hW => ?_) (fun i x H4 H5 hi hW hY => ?_) (fun H4 hW => ?_)
    · obtain ⟨_, _, _, e4, _⟩ := hW
      exact SqL.of e4
    · obtain ⟨ts, gs, kp, e4, hG, hD, hgs, hpos, T4⟩ := hW
      obtain ⟨rfl, hx⟩ := hY
      obtain ⟨a, ea, rfl⟩ := ints_at hx
      have hi' : i < ns.length := at_lt ea
      have hgl : gs.length = i := by
        have := congrArg List.length hgs
        rw [List.length_map, List.length_take] at this
        omega
      refine ⟨rfl, .int a, rfl, .ref t, rfl, .int lot, rfl, _, rfl, t, g, n + 202 + 5 * i, many, lot, rfl, T4, by omega, by omega, l0, l5, fun H6 b k6 T6 b0 => ?_⟩
      refine ⟨(by show 2 ≤ sizeLine; decide), fun u nu => ?_⟩
      have ou : Off t g u := T6.off nu
      have k7 : Kp (Off t g) H (upd H6 u (.tup [.int a, .int b])) := (kp.trans k6).new nu
      have nu0 : H u = none := (kp.trans k6).none ou nu
      have offD : ∀ z, H z = none → Off t g z := fun z hz => hT.off hz
      have hG6 : GsAt H6 (fun b => H b = none) D ts gs := hG.keep (fun z x hz e => k6 z x (offD z hz) e)
      have hG7 : GsAt (upd H6 u (.tup [.int a, .int b])) (fun b => H b = none) D ts gs := hG6.same (same_new nu)
      refine ⟨ts.map V.ref, hG7.top, ils (by rw [List.length_map, hG.len]; omega), ts ++ [u], gs ++ [(a, b)], ?_, ?_, hG7.push hD (g := (a, b)) upd_same nu0, ?_, ?_, ?_, ?_⟩
      · exact k7.mutF nD0
      · rw [upd_ne hDo, upd_ne (ne_of_none (k6 _ _ oo e4) nu)]
        exact k6 _ _ oo e4
      · intro m
        rcases List.mem_append.mp m with m | m
        · exact hD m
        · exact (ne_of_none hG6.top nu) (List.mem_singleton.mp m)
      · rw [List.map_append, hgs, take_snoc ea]
        rfl
      · intro g m
        rcases List.mem_append.mp m with m | m
        · exact hpos g m
        · rw [List.mem_singleton.mp m]
          exact b0
      · exact (T6.mut ou).mut oD
    · obtain ⟨ts, gs, kp, e4, hG, hD, hgs, hpos, T4⟩ := hW
      rw [List.length_map, take_full] at hgs
      have hgl : gs.length = many := by
        have := congrArg List.length hgs
        rw [List.length_map] at this
        omega
      exact q H4 D ts gs kp (T4.more (by rw [List.length_map]; omega)) hG hD ⟨by rw [hgs]; exact hnd, hpos⟩ (by omega)
end
end El
namespace El
open PySem PySem.Spec PyProof.Rows L2
section
variable {P : Program} {w : World} {K : PySem.W.Frag} {mg : Str → Option Value} {base : Heap}
abbrev s_law : Stmt := topS 26
abbrev N_law : List Str := ["script", "tray", "k", "some", "ages", "most", "told", "squares", "line", "calm", "age", "bears", "many", "room"]
abbrev P_law : List Str := ["script"]
theorem sc_law : FnScope N_law P_law (defScope s_law) := ⟨rfl, rfl, rfl, by decide +kernel, rfl, by decide +kernel, by decide +kernel⟩
theorem Tray.apart {H H' : Hp} {t g S : Addr} {n : Nat} (h : Tray H t g n) (k : Kp (fun z => z ≠ S) H H') (ht : t ≠ S) (hg : g ≠ S) : Tray H' t g n := by
  obtain ⟨gs, a, c, d, h1, h2, h3⟩ := h.ex
  exact ⟨h.ne, gs, a, c, d, k _ _ ht h1, k _ _ hg h2, h3⟩
/-- the worth of rooms: the squares of their sizes -/
def sqrs (rs : List (List Int)) : Int := ((rs.map fun r => (r.length : Int)).map fun n => n * n).sum
theorem asc_uniq {l m : List Int} (p : l.Perm m) (hl : l.Pairwise (· ≤ ·)) (hm : m.Pairwise (· ≤ ·)) : l = m := by
  have h := desc_uniq (((List.reverse_perm l).trans p).trans (List.reverse_perm m).symm) (List.pairwise_reverse.mpr hl) (List.pairwise_reverse.mpr hm)
  have h2 := congrArg List.reverse h
  rwa [List.reverse_reverse, List.reverse_reverse] at h2
def sp_law (K : PySem.W.Frag) : Sp := fun vs H Q _ => ∃ (a : Addr) (ns : List Int), vs = [.ref a] ∧ SqL K H a (ns.map V.int) ∧ ns.length ≤ 63 ∧ ∀ H', Q (.bl true) H'
theorem ok_law (A : At K mg "law" P_law s_law) (B : Bi mg)
    (D__law_tray : Df P w K mg base 1 "_law_tray" P__law_tray s__law_tray (sp__law_tray K)) (D__law_draw : Df P w K mg base 1 "_law_draw" P__law_draw s__law_draw sp__law_draw)
    (D__law_guests : Df P w K mg base 4 "_law_guests" P__law_guests s__law_guests sp__law_guests) (D_rooms : Df P w K mg base 2 "rooms" P_rooms s_rooms sp_rooms)
    (D_sizes : Df P w K mg base 3 "sizes" P_sizes s_sizes sp_sizes) (D_in_first : Df P w K mg base 4 "in_first" P_in_first s_in_first sp_in_first)
    (D_upset : Df P w K mg base 2 "upset" P_upset s_upset sp_upset) (D__law_partings : Df P w K mg base 1 "_law_partings" P__law_partings s__law_partings sp__law_partings)
    (D__law_in_peace : Df P w K mg base 1 "_law_in_peace" P__law_in_peace s__law_in_peace sp__law_in_peace) (D__law_no_fuller : Df P w K mg base 1 "_law_no_fuller" P__law_no_fuller s__law_no_fuller sp__law_no_fuller) : Df P w K mg base 5 "law" P_law s_law (sp_law K) := by
  refine A.df fun f fd F => F.ok sc_law (fun vs H Q E h => ?_) (fun cdv AA outer s H vs Q E hr h => ?_)
  · obtain ⟨a, _, rfl, _⟩ := h
    rfl
  · obtain ⟨a, ns, rfl, hS, hl, q⟩ := h
    have nd := sc_law.nd
    refine ⟨_, (pss_cons (ps_set (i := 1) nd rfl (.inl rfl) (pe_df D__law_tray (hr.mono (by decide)) (by rfl) (pa_cons (pv 0) pa_nil)))
    (pss_cons (ps_for PassesOwn.never rfl (pi_range1 (by rfl) B.range (pa_cons (pe_op op_add pe_int (pe_callB (call_min2 rfl) (by rfl) B.min (by decide +kernel) (pa_cons pe_int (pa_cons (pe_callB call_len_seq (by rfl) B.len PySem.boot_len (pa_cons (pv 0) pa_nil)) pa_nil)))) pa_nil)) (pg_name (i := 2) nd rfl (.inl rfl)) (pss_cons (ps_set (i := 3) nd rfl (.inr rfl) (pe_df D__law_guests (hr.mono (by decide)) (by rfl) (pa_cons (pv 1) (pa_cons (pe_ix ix_list (pe_lst (pa_cons pe_int (pa_cons pe_int (pa_cons pe_int pa_nil)))) (pe_df D__law_draw (hr.mono (by decide)) (by rfl) (pa_cons (pv 1) (pa_cons pe_int pa_nil))) (fun _ _ => rfl)) pa_nil)))) (pss_cons (ps_setLc (i := 4) (own := [("age", 10), ("bears", 11)]) (tt := tYes) rfl nd rfl rfl (sw_true rfl rfl rfl (by decide +kernel)) (pi_list (pv 3)) (blkOk_by (N := N_law) (sc := defScope s_law) (by decide +kernel)) (fun _ _ _ _ _ => (pgTupK K 2 (by rfl) (pgs_cons (pg_name (i := 10) nd rfl (.inl rfl)) (pgs_cons (pg_name (i := 11) nd rfl (.inl rfl)) pgs_nil)))) (fun _ _ _ _ _ => pts_nil) (fun _ _ _ _ _ => (pv 10))) (pss_cons (ps_setLc (i := 5) (own := [("many", 12)]) (tt := tYes) rfl nd rfl rfl (sw_true rfl rfl rfl (by decide +kernel)) (pi_range1 (by rfl) B.range (pa_cons (pe_op op_add (pe_callB call_len_seq (by rfl) B.len PySem.boot_len (pa_cons (pv 3) pa_nil)) pe_int) pa_nil)) (blkOk_by (N := N_law) (sc := defScope s_law) (by decide +kernel)) (fun _ _ _ _ _ => (pg_name (i := 12) nd rfl (.inl rfl))) (fun _ _ _ _ _ => pts_nil) (fun _ _ _ _ _ => (pe_df D_in_first (hr.mono (by decide)) (by rfl) (pa_cons (pv 3) (pa_cons (pv 12) pa_nil))))) (pss_cons (ps_set (i := 6) nd rfl (.inl rfl) (pe_df D_sizes (hr.mono (by decide)) (by rfl) (pa_cons (pv 3) pa_nil))) (pss_cons (ps_set (i := 7) nd rfl (.inl rfl) (pe_lst pa_nil)) (pss_cons (ps_for PassesOwn.never rfl (pi_list (pe_df D__law_partings (hr.mono (by decide)) (by rfl) (pa_cons (pv 4) pa_nil))) (pg_name (i := 8) nd rfl (.inl rfl)) (pss_cons (ps_set (i := 9) nd rfl (.inl rfl) (pe_df D__law_in_peace (hr.mono (by decide)) (by rfl) (pa_cons (pv 3) (pa_cons (pv 8) pa_nil)))) (pss_cons (ps_if (pt_cmpR op_ne (pv 9) (pe_cmpR op_isN (pe_df D_upset (hr.mono (by decide)) (by rfl) (pa_cons (pv 3) (pa_cons (pv 8) pa_nil))) pe_non (nomark _)) (nomark _)) (pss_one (ps_ret pe_bl)) pss_nil) (pss_cons (ps_if (PW.pt (pw_and (pt_val (pv 9)) (pw_and1 (PW.pt (pw_or (pt_cmpR op_lt (pe_callB call_len_seq (by rfl) B.len PySem.boot_len (pa_cons (pv 8) pa_nil)) (pe_callB call_len_seq (by rfl) B.len PySem.boot_len (pa_cons (pv 6) pa_nil)) (nomark _)) (pw_or1 (pt_not (pt_val (pe_df D__law_no_fuller (hr.mono (by decide)) (by rfl) (pa_cons (pv 8) (pa_cons (pv 5) pa_nil))))))))))) (pss_one (ps_ret pe_bl)) pss_nil) (pss_one (ps_if (pt_val (pv 9)) (pss_one (ps_expr (pe_bm PySem.F.plainAttrs_list PySem.F.slot_list_append PySem.F.type_list_append mt_append (pv 7) (pa_cons (pe_callB (cr_sum rfl) (by rfl) B.sum (by decide +kernel) (pa_cons (pe_lc (own := [("room", 13)]) (tt := tYes) rfl nd (pi_list (pv 8)) (blkOk_by (N := N_law) (sc := defScope s_law) (by decide +kernel)) (fun _ _ _ _ _ => (pg_name (i := 13) nd rfl (.inl rfl))) (fun _ _ _ _ _ => pts_nil) (fun _ _ _ _ _ => (pe_op op_pow (pe_callB (lenK K) (by rfl) B.len PySem.boot_len (pa_cons (pv 13) pa_nil)) pe_int))) pa_nil)) pa_nil)))) pss_nil)))))) (pss_cons (ps_if (PW.pt (pw_or (pt_cmpR op_ne (pe_callB (cr_max rfl) (by rfl) B.max (by decide +kernel) (pa_cons (pv 7) pa_nil)) (pe_callB (cr_sum rfl) (by rfl) B.sum (by decide +kernel) (pa_cons (pe_lc (own := [("many", 12)]) (tt := tYes) rfl nd (pi_list (pv 6)) (blkOk_by (N := N_law) (sc := defScope s_law) (by decide +kernel)) (fun _ _ _ _ _ => (pg_name (i := 12) nd rfl (.inl rfl))) (fun _ _ _ _ _ => pts_nil) (fun _ _ _ _ _ => (pe_op op_pow (pv 12) pe_int))) pa_nil)) (nomark _)) (pw_or1 (pt_not (pt_val (pe_df D__law_in_peace (hr.mono (by decide)) (by rfl) (pa_cons (pv 3) (pa_cons (pe_df D_rooms (hr.mono (by decide)) (by rfl) (pa_cons (pv 3) pa_nil)) pa_nil)))))))) (pss_one (ps_ret pe_bl)) pss_nil) (pss_one (ps_if (pt_cmpR (op_neD hr.units) (pe_callB cr_sortedI (by rfl) B.sorted (by decide +kernel) (pa_cons (pe_callB (cr_sumS K rfl) (by rfl) B.sum (by decide +kernel) (pa_cons (pe_df D_rooms (hr.mono (by decide)) (by rfl) (pa_cons (pv 3) pa_nil)) (pa_cons (pe_lst pa_nil) pa_nil))) pa_nil)) (pe_callB cr_sortedI (by rfl) B.sorted (by decide +kernel) (pa_cons (pv 4) pa_nil)) (nomark _)) (pss_one (ps_ret pe_bl)) pss_nil))))))))))
    (pss_one (ps_ret pe_bl)))), ?_⟩
    refine ⟨.ref a, rfl, a, ns, rfl, hS, hl, fun H1 t g s1 nt ng hT => ?_⟩
    refine ⟨.ref a, rfl, a, _, rfl, .inl (s1.seq hS), _, _, rfl, _, _, rfl, rfl, _, rfl, ?_, ?_, ?_⟩
    · split <;> omega
    · split <;> omega
    have hlaps : ((2 : Int) + (if ((ns.map V.int).length : Int) < 6 then ((ns.map V.int).length : Int) else 6)).toNat ≤ 8 := by
      split <;> omega
    refine for_it walk_range (fun i σ H2 => ∃ y2 y3 y4 y5 y6 y7 y8 y9 y10 y11 y12 y13, σ = [some (.ref a), some (.ref t), y2, y3, y4, y5, y6, y7, y8, y9, y10, y11, y12, y13] ∧ Tray H2 t g (1000 * i)) ⟨_, _, _, _, _, _, _, _, _, _, _, _, rfl, hT⟩ (fun _ _ _ _ _ => trivial) (fun i x σ H3 H4 hi hW hY => ?_) (fun σ H2 hW => ?_)
    · obtain ⟨y2, y3, y4, y5, y6, y7, y8, y9, y10, y11, y12, y13, rfl, T3⟩ := hW
      obtain ⟨rfl, rfl⟩ := hY
      have hi11 : i ≤ 7 := by omega
      -- some
      refine ⟨.ref t, rfl, (by show 3 ≤ sizeLine; decide), fun p np => ?_⟩
      have op : Off t g p := T3.off np
      refine ⟨.ref t, rfl, t, g, 1000 * i, 3, rfl, T3.mut op, by omega, by decide, by decide, fun H5 r5 k5 T5 a5 b5 => ?_⟩
      obtain ⟨most, hv, hm0, hm1⟩ := pick3 (P := fun x => 0 < x ∧ x ≤ 6) (a := 3) (b := 5) (c := 6) a5 b5 ⟨by decide, by decide⟩ ⟨by decide, by decide⟩ ⟨by decide, by decide⟩
      obtain ⟨m, rfl⟩ : ∃ m : Nat, most = (m : Int) := ⟨most.toNat, by omega⟩
      refine ⟨p, _, _, _, rfl, rfl, SqL.of (k5 _ _ op upd_same), hv, t, g, _, m, rfl, T5, by omega, by omega, fun H6 o ts gs k6 T6 hG6 hno hF hcl => ?_⟩
      have hg : gs.length ≤ 6 := by omega
      have hs6 : (settle gs).length ≤ 6 := by
        have := settleL_len (byAge gs)
        rw [byAge_length] at this
        exact Nat.le_trans this hg
      -- ages
      dsimp only [gName]
      refine ⟨.ref o, rfl, o, rfl, ⟨_, hG6.seq⟩, fun D nD => ?_⟩
      refine lc_prs (fun z => z.1) hG6 nD (by omega) (fun z H' _ _ Q q => ⟨_, rfl, q⟩) (fun _ => rfl) fun H7 s7 e7 => ?_
      have hG7 := hG6.same s7
      -- most
      dsimp only [gName]
      refine ⟨.ref o, rfl, o, _, rfl, .inl hG7.seq, _, _, rfl, rfl, _, rfl, by omega, by rw [List.length_map, hG7.len]; omega, fun M nM => ?_⟩
      have hcount : (((ts.map V.ref).length : Nat) + 2 : Int).toNat = gs.length + 2 := by
        rw [List.length_map, hG7.len]
        omega
      refine lc_it walk_range (fun k H2 => Same H7 H2 ∧ H2 M = some (.lst (((List.range k).map fun k => ((lens (settle gs)).take k).sum).map V.int))) ⟨same_new nM, upd_same⟩ (fun _ _ _ _ => trivial) (fun k x H2 H8 hk hW hY => ?_) (fun H8 hW => ?_)
      · obtain ⟨sm, e⟩ := hW
        obtain ⟨rfl, hx⟩ := hY
        obtain rfl := rg0 hx
        refine ⟨rfl, .ref o, rfl, .int k, rfl, _, o, ts, gs, k, rfl, hG7.same sm, hF, by omega, fun H9 s9 => ?_⟩
        have sm9 := sm.trans s9
        refine ⟨_, s9 _ _ e, ils (by rw [List.length_map, List.length_map, List.length_range]; omega), Same.mut sm9 nM, ?_⟩
        rw [upd_same, List.range_succ, List.map_append, List.map_append]
        rfl
      obtain ⟨s8, e8⟩ := hW
      rw [hcount] at e8
      have hG8 := hG7.same s8
      -- told
      dsimp only [gName]
      refine ⟨.ref o, rfl, _, o, ts, gs, rfl, hG8, hF, by omega, fun H9 q9 s9 n9 e9 => ?_⟩
      -- squares
      refine ⟨Nat.zero_le _, fun S nS => ?_⟩
      have sS := same_new (o := .lst []) nS
      have eS := upd_same (H := H9) (a := S) (o := .lst [])
      have hG9 := hG8.same s9
      have T9 := T6.keep (s7.trans (s8.trans s9))
      have e7' := (s8.trans s9) _ _ e7
      have e8' := s9 _ _ e8
      have nSo : o ≠ S := ne_of_none hG9.top nS
      have nSD : D ≠ S := ne_of_none e7' nS
      have nSM : M ≠ S := ne_of_none e8' nS
      have nSq : q9 ≠ S := ne_of_none e9 nS
      have oS : Off t g S := T9.off nS
      have hG10 : GsAt (upd H9 S (.lst [])) (fun z => z ≠ S) o ts gs := ⟨sS _ _ hG9.top, nSo, hG9.len, fun i t g e f => sS _ _ (hG9.at' i t g e f), fun t m z => by
        obtain ⟨x, e⟩ := hG9.there t (.inr m)
        rw [z, nS] at e
        cases e⟩
      have T10 := T9.keep sS
      have e7S := sS _ _ e7'
      have e8S := sS _ _ e8'
      have e9S := sS _ _ e9
      generalize upd H9 S (.lst []) = H10 at sS eS hG10 T10 e7S e8S e9S ⊢
      -- all partings
      refine ⟨.ref D, rfl, D, gs.map (·.1), roomIn (settle gs), rfl, e7S, by rw [List.length_map]; exact hg, fun H11 fo ps s11 e11 n11 hpl hps hgrp => ?_⟩
      obtain ⟨p0, hp0, us0, hR0⟩ := hgrp
      obtain ⟨j0, ej0⟩ := List.mem_iff_getElem?.mp hp0
      obtain ⟨hgl, hgc⟩ := grp_settle hF
      have hG11 := hG10.same s11
      have T11 := T10.keep s11
      have eS11 := s11 _ _ eS
      have e7a := s11 _ _ e7S
      have e8a := s11 _ _ e8S
      have e9a := s11 _ _ e9S
      have nSf : fo ≠ S := fun z => by
        rw [z, eS] at n11
        cases n11
      have hps' : ∀ p ∈ ps, ∃ us rs, RdAt H11 p us rs ∧ rs.flatten.Perm (gs.map (·.1)) ∧ rs.length ≤ 6 ∧ p ≠ S ∧ S ∉ us := fun p hp => by
        obtain ⟨us, rs, h1, h2, h3, h4, h5⟩ := hps p hp
        refine ⟨us, rs, h1, h2, h3, (fun z => by rw [z, eS] at h4; cases h4), fun m => ?_⟩
        have := h5 S m
        rw [eS] at this
        cases this
      refine ⟨fo, rfl, ⟨_, SqL.of e11⟩, ?_⟩
      refine for_it (walk_list (xs := ps.map V.ref)) (fun j σ H12 => ∃ (sq : List Int) (y8 y9 : Option V), σ = [some (.ref a), some (.ref t), some (.int (0 + (i : Int))), some (.ref o), some (.ref D), some (.ref M), some (.ref q9), some (.ref S), y8, y9, y10, y11, y12, y13] ∧ Kp (fun z => z ≠ S) H11 H12 ∧ H12 S = some (.lst (sq.map V.int)) ∧ sq.length ≤ j ∧ (∀ x ∈ sq, x ≤ sqrs (settle gs)) ∧ (j0 < j → sqrs (settle gs) ∈ sq))
        ⟨[], _, _, rfl, Kp.refl, eS11, Nat.zero_le _, fun _ m => absurd m List.not_mem_nil, fun h => absurd h (Nat.not_lt_zero _)⟩ (fun j σ H12 _ hW => ?_) (fun j x σ H12 H13 hj hW hY => ?_) (fun σ H12 hW => ?_)
      · obtain ⟨_, _, _, _, kp, _⟩ := hW
        exact SqL.of (kp _ _ nSf e11)
      · obtain ⟨sq, y8', y9', rfl, kp, hSq, hql, hqs, hhas⟩ := hW
        obtain ⟨rfl, hx⟩ := hY
        obtain ⟨p, epp, rfl⟩ := refs_at hx
        obtain ⟨us, rs, hR, hpm, hrl, hpS, huS⟩ := hps' p (List.mem_of_getElem? epp)
        have hj7 : j < 720 := by
          have := at_lt epp
          omega
        have hrs0 : j0 = j → rs = grp (roomIn (settle gs)) (gs.map (·.1)) := fun e => by
          subst e
          obtain rfl : p0 = p := Option.some.inj (ej0.symm.trans epp)
          exact (hR.uniq hR0).2
        have hR13 : RdAt H13 p us rs := hR.keepOn fun z x hz e => kp z x (by
          rcases hz with rfl | hz
          · exact hpS
          · exact fun e => huS (e ▸ hz)) e
        have hG13 := hG11.keep kp
        -- calm
        refine ⟨.ref o, rfl, .ref p, rfl, _, o, p, ts, us, gs, rs, rfl, hG13, hF, by omega, hR13, hpm, fun H14 s14 => ?_⟩
        have hR14 := hR13.same s14
        have hG14 := hG13.same s14
        dsimp only [gName]
        refine ⟨.bl (peaceB gs rs), rfl, .ref o, rfl, .ref p, rfl, _, o, p, ts, us, gs, rs, rfl, hG14, hF, by omega, hR14, hpm, fun hu H15 s15 => ?_, fun i' x' hu H15 t' s15 n15 e15 => ?_⟩
        · have hb : peaceB gs rs = true := decide_eq_true hu
          have hcalm := upsetOf_iff.mp hu
          have hdom := calm_dom hF hpm hcalm
          have s1315 := s14.trans s15
          have hR15 := hR14.same s15
          have e9b := s1315 _ _ (kp _ _ nSq e9a)
          have e8b := s1315 _ _ (kp _ _ nSM e8a)
          have hflat : (settle gs).flatten.length ≤ rs.flatten.length := by rw [hpm.length_eq, (settle_flat gs).length_eq]; exact Nat.le_refl _
          have hrooms := hdom.rooms (settle_rooms_ne gs) hflat
          rw [hb]
          refine ⟨rfl, rfl, _, rfl, ?_⟩
          rw [show decide (V.non = V.non) = true from decide_eq_true rfl, nd_self]
          refine iteF ?_
          refine ⟨.bl true, rfl, true, rfl, iteT ?_⟩
          refine ⟨.ref p, rfl, p, _, rfl, .inl hR15.seq, .ref q9, rfl, q9, _, rfl, .inl (SqL.of e9b), _, _, rfl, rfl, _, rfl, ?_⟩
          rw [decide_eq_false (by rw [List.length_map, List.length_map, hR15.len, lens_length]; omega)]
          refine iteF ?_
          refine ⟨.ref p, rfl, .ref M, rfl, p, M, us, rs, _, rfl, hR15, e8b, by omega, by rw [List.length_map, List.length_range]; omega, fun k x ex => ?_, fun H16 s16 => ⟨_, rfl, iteX rfl ?_⟩⟩
          · rw [List.getElem?_map] at ex
            obtain ⟨k', ek, rfl⟩ := Option.map_eq_some_iff.mp ex
            obtain rfl : k' = k := by
              have := (List.getElem?_eq_some_iff.mp ek)
              have h2 := this.2
              rw [List.getElem_range] at h2
              exact h2.symm
            exact first_le hdom k'
          have s1316 := s1315.trans s16
          have hSq16 := s1316 _ _ hSq
          have hR16 := hR15.same s16
          refine ⟨.bl true, rfl, true, rfl, iteT ?_⟩
          refine ⟨.ref S, rfl, .inl ⟨rfl, _, SqL.of hSq16⟩, .ref p, rfl, p, rfl, ⟨_, hR16.seq⟩, fun D2 nD2 => ?_⟩
          refine lc_rows (fun r => (r.length : Int) * r.length) hR16 nD2 (by omega) (fun t' r H' mr et Q h => ?_) (fun _ => rfl) fun H17 s17 e17 => ?_
          · have hr6 : r.length ≤ 6 := by
              have h1 := room_le_flat rs r mr
              have h2 := hpm.length_eq
              rw [List.length_map] at h2
              omega
            refine ⟨.ref t', rfl, t', _, rfl, .inl (SqL.of et), _, _, rfl, rfl, ⟨by decide, by decide, ?_⟩, ?_⟩
            · rw [List.length_map, Int.natAbs_natCast]
              exact Nat.lt_of_le_of_lt hr6 (by decide)
            · have e : ((r.map V.int).length : Int) ^ (2 : Int).toNat = (r.length : Int) * r.length := by
                rw [List.length_map]
                exact Int.pow_succ _ 1 |>.trans (by rw [Int.pow_succ, Int.pow_zero, Int.one_mul])
              show Q (.int (((r.map V.int).length : Int) ^ (2 : Int).toNat)) H'
              rw [e]
              exact h
          have hSq17 := s17 _ _ hSq16
          have s1317 := s1316.trans s17
          have esum : (rs.map fun r => (r.length : Int) * r.length).sum = sqrs rs := by
            unfold sqrs
            rw [List.map_map]
            rfl
          have hle : sqrs rs ≤ sqrs (settle gs) := by
           have h := worth_le hdom (by rw [hpm.length_eq, (settle_flat gs).length_eq]) (fun n => n * n) rfl fun t ht => bend_sq t (by
            rw [(settle_flat gs).length_eq, List.length_map] at ht
            omega)
           rw [perm_sumI ((down_perm _).map fun n => n * n)] at h
           exact h
          refine ⟨D2, _, rfl, SqL.of e17, S, _, _, rfl, rfl, hSq17, ils (by rw [List.length_map]; omega), ?_⟩
          have kp99 : Kp (fun z => z ≠ S) H17 (upd H17 S (.lst (sq.map V.int ++ [.int (rs.map fun r => (r.length : Int) * r.length).sum]))) := Kp.mut Kp.refl fun h => h rfl
          refine ⟨sq ++ [sqrs rs], _, _, rfl, (kp.trans (.of s1317)).trans kp99, by rw [upd_same, List.map_append, esum]; rfl, by rw [List.length_append, List.length_singleton]; omega, fun x m => ?_, fun h => ?_⟩
          · rcases List.mem_append.mp m with m | m
            · exact hqs x m
            · rw [List.mem_singleton.mp m]
              exact hle
          · by_cases h2 : j0 < j
            · exact List.mem_append_left _ (hhas h2)
            · have e := hrs0 (by omega)
              refine List.mem_append_right _ (List.mem_singleton.mpr ?_)
              unfold sqrs
              rw [e, lens_castN, lens_castN]
              exact perm_sumI (((hgl.map _).map _).symm)
        · have hb : peaceB gs rs = false := decide_eq_false (by rw [hu]; exact fun z => nomatch z)
          rw [hb]
          refine ⟨rfl, rfl, _, rfl, ?_⟩
          rw [show decide (V.ref t' = V.non) = false from decide_eq_false (fun z => nomatch z), nd_self]
          refine iteF ?_
          refine ⟨.bl false, rfl, false, rfl, iteF ?_⟩
          refine ⟨.bl false, rfl, false, rfl, iteF ?_⟩
          have s1315 := s14.trans s15
          refine ⟨sq, _, _, rfl, kp.trans (.of s1315), s1315 _ _ hSq, by omega, hqs, fun h => ?_⟩
          by_cases h2 : j0 < j
          · exact hhas h2
          · have e := hrs0 (by omega)
            have : upsetOf gs rs 0 = none := upsetOf_none (e ▸ hgc)
            rw [hu] at this
            cases this
      · obtain ⟨sq, y8, y9, rfl, kp, hSq, hql, hqs, hhas⟩ := hW
        rw [List.length_map] at hhas
        have hbest := hhas (at_lt ej0)
        have hG12 := hG11.keep kp
        have e7c := kp _ _ nSD e7a
        have e9c := kp _ _ nSq e9a
        have T12 := T11.apart kp oS.1.symm oS.2.symm
        refine ⟨.ref S, rfl, S, sq, rfl, SqL.of hSq, List.length_pos_of_mem hbest, fun m mm hmx => ?_⟩
        obtain rfl : m = sqrs (settle gs) := Int.le_antisymm (hqs m mm) (hmx _ hbest)
        refine ⟨.ref q9, rfl, q9, rfl, ⟨_, SqL.of e9c⟩, fun D3 nD3 => ?_⟩
        refine lc_ints (fun n => n * n) e9c nD3 (by rw [lens_length]; omega) (fun k z H' ez _ Q h => ?_) (fun _ => rfl) fun H13 s13 e13 => ?_
        · have hz : z.natAbs ≤ 6 := by
            unfold lens at ez
            rw [List.getElem?_map] at ez
            obtain ⟨r, er, rfl⟩ := Option.map_eq_some_iff.mp ez
            have h1 := room_le_flat (settle gs) r (List.mem_of_getElem? er)
            rw [(settle_flat gs).length_eq, List.length_map] at h1
            rw [Int.natAbs_natCast]
            omega
          refine ⟨.int z, rfl, _, _, rfl, rfl, ⟨by decide, by decide, Nat.lt_of_le_of_lt hz (by decide)⟩, ?_⟩
          have e : z ^ (2 : Int).toNat = z * z := Int.pow_succ _ 1 |>.trans (by rw [Int.pow_succ, Int.pow_zero, Int.one_mul])
          show Q (.int (z ^ (2 : Int).toNat)) H'
          rw [e]
          exact h
        refine ⟨D3, _, rfl, SqL.of e13, rfl, _, rfl, ?_⟩
        rw [show ((lens (settle gs)).map fun n => n * n).sum = sqrs (settle gs) from rfl, nd_self]
        refine iteF ?_
        have hG13 := hG12.same s13
        refine ⟨.ref o, rfl, .ref o, rfl, _, o, ts, gs, rfl, hG13, hF, by omega, fun H14 o1 us1 s14 hR1 => ?_⟩
        have hG14 := hG13.same s14
        refine ⟨_, o, o1, ts, us1, gs, settle gs, rfl, hG14, hF, by omega, hR1.rd, settle_flat gs, fun H15 s15 => ⟨_, rfl, ?_⟩⟩
        rw [show peaceB gs (settle gs) = true from decide_eq_true (upsetOf_none fun r mr => settle_calm hF mr)]
        refine iteX rfl ?_
        have hG15 := hG14.same s15
        have s1315 := s13.trans (s14.trans s15)
        -- everybody is there
        refine ⟨.ref o, rfl, _, o, ts, gs, rfl, hG15, hF, by omega, fun H16 o2 us2 s16 hR2 => ⟨Nat.zero_le _, fun e ne => ?_⟩⟩
        have se := same_new (o := .lst []) ne
        refine ⟨o2, e, us2, (settle gs).map (List.map V.int), rfl, SqL.of (se _ _ hR2.top), upd_same, by rw [List.length_map, hR2.len], fun k u r e1 e2 => ?_, ?_, fun q3 H17 s17 e17 => ?_⟩
        · rw [List.getElem?_map] at e2
          obtain ⟨r', e3, rfl⟩ := Option.map_eq_some_iff.mp e2
          exact se _ _ (hR2.at' k u r' e1 e3)
        · rw [← List.map_flatten, List.length_map, (settle_flat gs).length_eq, List.length_map]
          exact ile (by omega)
        rw [← List.map_flatten] at e17
        have s1517 := s16.trans (se.trans s17)
        refine ⟨q3, _, rfl, SqL.of e17, fun as1 p1 hp1 hs1 np1 => ?_⟩
        have t1 := same_new (o := .lst (as1.map V.int)) np1
        refine ⟨.ref D, rfl, D, gs.map (·.1), rfl, SqL.of (t1 _ _ (s1517 _ _ (s1315 _ _ e7c))), fun as2 p2 hp2 hs2 np2 => ?_⟩
        have t2 := same_new (o := .lst (as2.map V.int)) np2
        obtain rfl : as1 = as2 := asc_uniq ((hp1.trans (settle_flat gs)).trans hp2.symm) hs1 hs2
        refine ⟨dInts as1, dInts as1, Dp.ints (t2 _ _ upd_same), Dp.ints upd_same, (Oks.ints _).shaped, (Oks.ints _).shaped, _, rfl, ?_⟩
        rw [eqv_ints, decide_eq_true rfl]
        refine iteF ?_
        exact ⟨_, _, _, _, _, _, _, _, _, _, _, _, rfl, (T12.keep (s1315.trans (s1517.trans (t1.trans t2)))).more (by omega)⟩
    · exact q _
end
end El
namespace El
open PySem PySem.Spec PyProof.Rows L2
theorem all_mk {l : PySem.W.OpenLaw} {w : World} {K : PySem.W.Frag} {h : Heap} {mg : Str → Option Value} {fa f1 f2 f3 f4 f5 f6 f7 f8 f9 f10 f11 f12 f13 f14 f15 f16 f17 f18 f19 : Addr} (X : K.In h) (G : h.Ns mainGlobals mg) (hfa : mg "law" = some (.ref fa))
    {od1 an1 od2 an2 od3 an3 od4 an4 od5 an5 od6 an6 od7 an7 od8 an8 od9 an9 od10 an10 od11 an11 od12 an12 od13 an13 od14 an14 od15 an15 od16 an16 od17 an17 od18 an18 od19 an19 : Option Addr} {sl1 sl2 sl3 sl4 sl5 sl6 sl7 sl8 sl9 sl10 sl11 sl12 sl13 sl14 sl15 sl16 sl17 sl18 sl19 : Array (Option Value)} {oc1 kV1 dc1 pm1 cd1 ct1 oc2 kV2 dc2 pm2 cd2 ct2 oc3 kV3 dc3 pm3 cd3 ct3 oc4 kV4 dc4 pm4 cd4 ct4 oc5 kV5 dc5 pm5 cd5 ct5 oc6 kV6 dc6 pm6 cd6 ct6 oc7 kV7 dc7 pm7 cd7 ct7 oc8 kV8 dc8 pm8 cd8 ct8 oc9 kV9 dc9 pm9 cd9 ct9 oc10 kV10 dc10 pm10 cd10 ct10 oc11 kV11 dc11 pm11 cd11 ct11 oc12 kV12 dc12 pm12 cd12 ct12 oc13 kV13 dc13 pm13 cd13 ct13 oc14 kV14 dc14 pm14 cd14 ct14 oc15 kV15 dc15 pm15 cd15 ct15 oc16 kV16 dc16 pm16 cd16 ct16 oc17 kV17 dc17 pm17 cd17 ct17 oc18 kV18 dc18 pm18 cd18 ct18 oc19 kV19 dc19 pm19 cd19 ct19 : Value}
    (a1 : PySem.W.nsIn K mainGlobals "patience_by_age" = some (some (.ref f1))) (l1 : K.lookup f1 = some ⟨oc1, od1, .func (PySem.W.fnOf "patience_by_age" "patience_by_age" (defArgs s_patience_by_age) (defBody s_patience_by_age) (defScope s_patience_by_age) .none kV1 dc1 pm1 an1 cd1 ct1), sl1⟩) (c1 : PySem.W.codeIn K cd1 "patience_by_age" = true) (k1 : PySem.W.keepIn K (.ref f1) = true)
    (a2 : PySem.W.nsIn K mainGlobals "check_first" = some (some (.ref f2))) (l2 : K.lookup f2 = some ⟨oc2, od2, .func (PySem.W.fnOf "check_first" "check_first" (defArgs s_check_first) (defBody s_check_first) (defScope s_check_first) .none kV2 dc2 pm2 an2 cd2 ct2), sl2⟩) (c2 : PySem.W.codeIn K cd2 "check_first" = true) (k2 : PySem.W.keepIn K (.ref f2) = true)
    (a3 : PySem.W.nsIn K mainGlobals "check_arrangement" = some (some (.ref f3))) (l3 : K.lookup f3 = some ⟨oc3, od3, .func (PySem.W.fnOf "check_arrangement" "check_arrangement" (defArgs s_check_arrangement) (defBody s_check_arrangement) (defScope s_check_arrangement) .none kV3 dc3 pm3 an3 cd3 ct3), sl3⟩) (c3 : PySem.W.codeIn K cd3 "check_arrangement" = true) (k3 : PySem.W.keepIn K (.ref f3) = true)
    (a4 : PySem.W.nsIn K mainGlobals "first_borne" = some (some (.ref f4))) (l4 : K.lookup f4 = some ⟨oc4, od4, .func (PySem.W.fnOf "first_borne" "first_borne" (defArgs s_first_borne) (defBody s_first_borne) (defScope s_first_borne) .none kV4 dc4 pm4 an4 cd4 ct4), sl4⟩) (c4 : PySem.W.codeIn K cd4 "first_borne" = true) (k4 : PySem.W.keepIn K (.ref f4) = true)
    (a5 : PySem.W.nsIn K mainGlobals "rooms" = some (some (.ref f5))) (l5 : K.lookup f5 = some ⟨oc5, od5, .func (PySem.W.fnOf "rooms" "rooms" (defArgs s_rooms) (defBody s_rooms) (defScope s_rooms) .none kV5 dc5 pm5 an5 cd5 ct5), sl5⟩) (c5 : PySem.W.codeIn K cd5 "rooms" = true) (k5 : PySem.W.keepIn K (.ref f5) = true)
    (a6 : PySem.W.nsIn K mainGlobals "sizes" = some (some (.ref f6))) (l6 : K.lookup f6 = some ⟨oc6, od6, .func (PySem.W.fnOf "sizes" "sizes" (defArgs s_sizes) (defBody s_sizes) (defScope s_sizes) .none kV6 dc6 pm6 an6 cd6 ct6), sl6⟩) (c6 : PySem.W.codeIn K cd6 "sizes" = true) (k6 : PySem.W.keepIn K (.ref f6) = true)
    (a7 : PySem.W.nsIn K mainGlobals "in_first" = some (some (.ref f7))) (l7 : K.lookup f7 = some ⟨oc7, od7, .func (PySem.W.fnOf "in_first" "in_first" (defArgs s_in_first) (defBody s_in_first) (defScope s_in_first) .none kV7 dc7 pm7 an7 cd7 ct7), sl7⟩) (c7 : PySem.W.codeIn K cd7 "in_first" = true) (k7 : PySem.W.keepIn K (.ref f7) = true)
    (a8 : PySem.W.nsIn K mainGlobals "eldest_upset" = some (some (.ref f8))) (l8 : K.lookup f8 = some ⟨oc8, od8, .func (PySem.W.fnOf "eldest_upset" "eldest_upset" (defArgs s_eldest_upset) (defBody s_eldest_upset) (defScope s_eldest_upset) .none kV8 dc8 pm8 an8 cd8 ct8), sl8⟩) (c8 : PySem.W.codeIn K cd8 "eldest_upset" = true) (k8 : PySem.W.keepIn K (.ref f8) = true)
    (a9 : PySem.W.nsIn K mainGlobals "upset" = some (some (.ref f9))) (l9 : K.lookup f9 = some ⟨oc9, od9, .func (PySem.W.fnOf "upset" "upset" (defArgs s_upset) (defBody s_upset) (defScope s_upset) .none kV9 dc9 pm9 an9 cd9 ct9), sl9⟩) (c9 : PySem.W.codeIn K cd9 "upset" = true) (k9 : PySem.W.keepIn K (.ref f9) = true)
    (a10 : PySem.W.nsIn K mainGlobals "_law_tray" = some (some (.ref f10))) (l10 : K.lookup f10 = some ⟨oc10, od10, .func (PySem.W.fnOf "_law_tray" "_law_tray" (defArgs s__law_tray) (defBody s__law_tray) (defScope s__law_tray) .none kV10 dc10 pm10 an10 cd10 ct10), sl10⟩) (c10 : PySem.W.codeIn K cd10 "_law_tray" = true) (k10 : PySem.W.keepIn K (.ref f10) = true)
    (a11 : PySem.W.nsIn K mainGlobals "_law_draw" = some (some (.ref f11))) (l11 : K.lookup f11 = some ⟨oc11, od11, .func (PySem.W.fnOf "_law_draw" "_law_draw" (defArgs s__law_draw) (defBody s__law_draw) (defScope s__law_draw) .none kV11 dc11 pm11 an11 cd11 ct11), sl11⟩) (c11 : PySem.W.codeIn K cd11 "_law_draw" = true) (k11 : PySem.W.keepIn K (.ref f11) = true)
    (a12 : PySem.W.nsIn K mainGlobals "_law_shuffled" = some (some (.ref f12))) (l12 : K.lookup f12 = some ⟨oc12, od12, .func (PySem.W.fnOf "_law_shuffled" "_law_shuffled" (defArgs s__law_shuffled) (defBody s__law_shuffled) (defScope s__law_shuffled) .none kV12 dc12 pm12 an12 cd12 ct12), sl12⟩) (c12 : PySem.W.codeIn K cd12 "_law_shuffled" = true) (k12 : PySem.W.keepIn K (.ref f12) = true)
    (a13 : PySem.W.nsIn K mainGlobals "_law_ages" = some (some (.ref f13))) (l13 : K.lookup f13 = some ⟨oc13, od13, .func (PySem.W.fnOf "_law_ages" "_law_ages" (defArgs s__law_ages) (defBody s__law_ages) (defScope s__law_ages) .none kV13 dc13 pm13 an13 cd13 ct13), sl13⟩) (c13 : PySem.W.codeIn K cd13 "_law_ages" = true) (k13 : PySem.W.keepIn K (.ref f13) = true)
    (a14 : PySem.W.nsIn K mainGlobals "_law_patience" = some (some (.ref f14))) (l14 : K.lookup f14 = some ⟨oc14, od14, .func (PySem.W.fnOf "_law_patience" "_law_patience" (defArgs s__law_patience) (defBody s__law_patience) (defScope s__law_patience) .none kV14 dc14 pm14 an14 cd14 ct14), sl14⟩) (c14 : PySem.W.codeIn K cd14 "_law_patience" = true) (k14 : PySem.W.keepIn K (.ref f14) = true)
    (a15 : PySem.W.nsIn K mainGlobals "_law_guests" = some (some (.ref f15))) (l15 : K.lookup f15 = some ⟨oc15, od15, .func (PySem.W.fnOf "_law_guests" "_law_guests" (defArgs s__law_guests) (defBody s__law_guests) (defScope s__law_guests) .none kV15 dc15 pm15 an15 cd15 ct15), sl15⟩) (c15 : PySem.W.codeIn K cd15 "_law_guests" = true) (k15 : PySem.W.keepIn K (.ref f15) = true)
    (a16 : PySem.W.nsIn K mainGlobals "_law_partings" = some (some (.ref f16))) (l16 : K.lookup f16 = some ⟨oc16, od16, .func (PySem.W.fnOf "_law_partings" "_law_partings" (defArgs s__law_partings) (defBody s__law_partings) (defScope s__law_partings) .none kV16 dc16 pm16 an16 cd16 ct16), sl16⟩) (c16 : PySem.W.codeIn K cd16 "_law_partings" = true) (k16 : PySem.W.keepIn K (.ref f16) = true)
    (a17 : PySem.W.nsIn K mainGlobals "_law_in_peace" = some (some (.ref f17))) (l17 : K.lookup f17 = some ⟨oc17, od17, .func (PySem.W.fnOf "_law_in_peace" "_law_in_peace" (defArgs s__law_in_peace) (defBody s__law_in_peace) (defScope s__law_in_peace) .none kV17 dc17 pm17 an17 cd17 ct17), sl17⟩) (c17 : PySem.W.codeIn K cd17 "_law_in_peace" = true) (k17 : PySem.W.keepIn K (.ref f17) = true)
    (a18 : PySem.W.nsIn K mainGlobals "_law_no_fuller" = some (some (.ref f18))) (l18 : K.lookup f18 = some ⟨oc18, od18, .func (PySem.W.fnOf "_law_no_fuller" "_law_no_fuller" (defArgs s__law_no_fuller) (defBody s__law_no_fuller) (defScope s__law_no_fuller) .none kV18 dc18 pm18 an18 cd18 ct18), sl18⟩) (c18 : PySem.W.codeIn K cd18 "_law_no_fuller" = true) (k18 : PySem.W.keepIn K (.ref f18) = true)
    (a19 : PySem.W.nsIn K mainGlobals "law" = some (some (.ref f19))) (l19 : K.lookup f19 = some ⟨oc19, od19, .func (PySem.W.fnOf "law" "law" (defArgs s_law) (defBody s_law) (defScope s_law) .none kV19 dc19 pm19 an19 cd19 ct19), sl19⟩) (c19 : PySem.W.codeIn K cd19 "law" = true) (k19 : PySem.W.keepIn K (.ref f19) = true)
    (z1 : PySem.W.nsIn K mainGlobals "len" = some none) (z2 : PySem.W.nsIn K mainGlobals "range" = some none) (z3 : PySem.W.nsIn K mainGlobals "enumerate" = some none) (z4 : PySem.W.nsIn K mainGlobals "sorted" = some none) (z5 : PySem.W.nsIn K mainGlobals "sum" = some none) (z6 : PySem.W.nsIn K mainGlobals "min" = some none) (z7 : PySem.W.nsIn K mainGlobals "max" = some none) (z8 : PySem.W.nsIn K mainGlobals "isinstance" = some none) (z9 : PySem.W.nsIn K mainGlobals "zip" = some none) (z10 : PySem.W.nsIn K mainGlobals "list" = some none) (z11 : PySem.W.nsIn K mainGlobals "tuple" = some none) (z12 : PySem.W.nsIn K mainGlobals "int" = some none) (z13 : PySem.W.nsIn K mainGlobals "bool" = some none) (z14 : PySem.W.nsIn K mainGlobals "str" = some none) (z15 : PySem.W.nsIn K mainGlobals "abs" = some none) (z16 : PySem.W.nsIn K mainGlobals "repr" = some none) (z17 : PySem.W.nsIn K mainGlobals "dict" = some none) (z18 : PySem.W.nsIn K mainGlobals "any" = some none) (z19 : PySem.W.nsIn K mainGlobals "all" = some none) (z20 : PySem.W.nsIn K mainGlobals "set" = some none) (z21 : PySem.W.nsIn K mainGlobals "reversed" = some none) (z22 : PySem.W.nsIn K mainGlobals "ValueError" = some none) (z23 : PySem.W.nsIn K mainGlobals "divmod" = some none) :
    ∃ fd : FuncData, (∀ (s : Shared) (v : Value), BindsTo s fd ⟨[v], []⟩ [("script", v)]) ∧ ∀ base : Heap, K.In base → base.Ns mainGlobals mg → FnOk l.prog w K mg base CX0 5 fa fd ["script"] (sp_law K) := by
  obtain rfl : f19 = fa := by
    have e := (PySem.W.mg_of X G a19).symm.trans hfa
    injection e with e
    injection e
  have B : Bi mg := ⟨PySem.W.mg_none_of X G z1, PySem.W.mg_none_of X G z2, PySem.W.mg_none_of X G z3, PySem.W.mg_none_of X G z4, PySem.W.mg_none_of X G z5, PySem.W.mg_none_of X G z6, PySem.W.mg_none_of X G z7, PySem.W.mg_none_of X G z8, PySem.W.mg_none_of X G z9, PySem.W.mg_none_of X G z10, PySem.W.mg_none_of X G z11, PySem.W.mg_none_of X G z12, PySem.W.mg_none_of X G z13, PySem.W.mg_none_of X G z14, PySem.W.mg_none_of X G z15, PySem.W.mg_none_of X G z16, PySem.W.mg_none_of X G z17, PySem.W.mg_none_of X G z18, PySem.W.mg_none_of X G z19, PySem.W.mg_none_of X G z20, PySem.W.mg_none_of X G z21, PySem.W.mg_none_of X G z22, PySem.W.mg_none_of X G z23⟩
  have A1 : At K mg "patience_by_age" P_patience_by_age s_patience_by_age := .mk' X G a1 l1 c1 k1 fun _ _ _ _ _ _ us hl => match us, hl with | [_], _ => rfl
  have A2 : At K mg "check_first" P_check_first s_check_first := .mk' X G a2 l2 c2 k2 fun _ _ _ _ _ _ us hl => match us, hl with | [_], _ => rfl
  have A3 : At K mg "check_arrangement" P_check_arrangement s_check_arrangement := .mk' X G a3 l3 c3 k3 fun _ _ _ _ _ _ us hl => match us, hl with | [_, _], _ => rfl
  have A4 : At K mg "first_borne" P_first_borne s_first_borne := .mk' X G a4 l4 c4 k4 fun _ _ _ _ _ _ us hl => match us, hl with | [_, _], _ => rfl
  have A5 : At K mg "rooms" P_rooms s_rooms := .mk' X G a5 l5 c5 k5 fun _ _ _ _ _ _ us hl => match us, hl with | [_], _ => rfl
  have A6 : At K mg "sizes" P_sizes s_sizes := .mk' X G a6 l6 c6 k6 fun _ _ _ _ _ _ us hl => match us, hl with | [_], _ => rfl
  have A7 : At K mg "in_first" P_in_first s_in_first := .mk' X G a7 l7 c7 k7 fun _ _ _ _ _ _ us hl => match us, hl with | [_, _], _ => rfl
  have A8 : At K mg "eldest_upset" P_eldest_upset s_eldest_upset := .mk' X G a8 l8 c8 k8 fun _ _ _ _ _ _ us hl => match us, hl with | [_, _], _ => rfl
  have A9 : At K mg "upset" P_upset s_upset := .mk' X G a9 l9 c9 k9 fun _ _ _ _ _ _ us hl => match us, hl with | [_, _], _ => rfl
  have A10 : At K mg "_law_tray" P__law_tray s__law_tray := .mk' X G a10 l10 c10 k10 fun _ _ _ _ _ _ us hl => match us, hl with | [_], _ => rfl
  have A11 : At K mg "_law_draw" P__law_draw s__law_draw := .mk' X G a11 l11 c11 k11 fun _ _ _ _ _ _ us hl => match us, hl with | [_, _], _ => rfl
  have A12 : At K mg "_law_shuffled" P__law_shuffled s__law_shuffled := .mk' X G a12 l12 c12 k12 fun _ _ _ _ _ _ us hl => match us, hl with | [_, _], _ => rfl
  have A13 : At K mg "_law_ages" P__law_ages s__law_ages := .mk' X G a13 l13 c13 k13 fun _ _ _ _ _ _ us hl => match us, hl with | [_, _], _ => rfl
  have A14 : At K mg "_law_patience" P__law_patience s__law_patience := .mk' X G a14 l14 c14 k14 fun _ _ _ _ _ _ us hl => match us, hl with | [_, _, _], _ => rfl
  have A15 : At K mg "_law_guests" P__law_guests s__law_guests := .mk' X G a15 l15 c15 k15 fun _ _ _ _ _ _ us hl => match us, hl with | [_, _], _ => rfl
  have A16 : At K mg "_law_partings" P__law_partings s__law_partings := .mk' X G a16 l16 c16 k16 fun _ _ _ _ _ _ us hl => match us, hl with | [_], _ => rfl
  have A17 : At K mg "_law_in_peace" P__law_in_peace s__law_in_peace := .mk' X G a17 l17 c17 k17 fun _ _ _ _ _ _ us hl => match us, hl with | [_, _], _ => rfl
  have A18 : At K mg "_law_no_fuller" P__law_no_fuller s__law_no_fuller := .mk' X G a18 l18 c18 k18 fun _ _ _ _ _ _ us hl => match us, hl with | [_, _], _ => rfl
  have A19 : At K mg "law" P_law s_law := .mk' X G a19 l19 c19 k19 fun _ _ _ _ _ _ us hl => match us, hl with | [_], _ => rfl
  refine ⟨PySem.W.fnOf "law" "law" (defArgs s_law) (defBody s_law) (defScope s_law) .none kV19 dc19 pm19 an19 cd19 ct19, fun s v => .of_eq rfl, fun base _ _ => ?_⟩
  have D_patience_by_age := ok_patience_by_age (P := l.prog) (w := w) (base := base) A1 B
  have D_check_first := ok_check_first (P := l.prog) (w := w) (base := base) A2 
  have D_check_arrangement := ok_check_arrangement (P := l.prog) (w := w) (base := base) A3 B
  have D_first_borne := ok_first_borne (P := l.prog) (w := w) (base := base) A4 B
  have D_rooms := ok_rooms (P := l.prog) (w := w) (base := base) A5 B D_patience_by_age D_first_borne
  have D_sizes := ok_sizes (P := l.prog) (w := w) (base := base) A6 B D_rooms
  have D_in_first := ok_in_first (P := l.prog) (w := w) (base := base) A7 B D_sizes D_check_first
  have D_eldest_upset := ok_eldest_upset (P := l.prog) (w := w) (base := base) A8 B
  have D_upset := ok_upset (P := l.prog) (w := w) (base := base) A9 B D_patience_by_age D_check_arrangement D_eldest_upset
  have D__law_tray := ok__law_tray (P := l.prog) (w := w) (base := base) A10 B
  have D__law_draw := ok__law_draw (P := l.prog) (w := w) (base := base) A11 B
  have D__law_shuffled := ok__law_shuffled (P := l.prog) (w := w) (base := base) A12 B D__law_draw
  have D__law_ages := ok__law_ages (P := l.prog) (w := w) (base := base) A13 B D__law_draw D__law_shuffled
  have D__law_patience := ok__law_patience (P := l.prog) (w := w) (base := base) A14 B D__law_draw
  have D__law_guests := ok__law_guests (P := l.prog) (w := w) (base := base) A15 B D__law_draw D__law_ages D__law_patience
  have D__law_partings := ok__law_partings (P := l.prog) (w := w) (base := base) A16 B
  have D__law_in_peace := ok__law_in_peace (P := l.prog) (w := w) (base := base) A17 B
  have D__law_no_fuller := ok__law_no_fuller (P := l.prog) (w := w) (base := base) A18 B
  have D_law := ok_law (P := l.prog) (w := w) (base := base) A19 B D__law_tray D__law_draw D__law_guests D_rooms D_sizes D_in_first D_upset D__law_partings D__law_in_peace D__law_no_fuller
  exact D_law.at hfa l19
end El
open PySem PySem.W PyProof.Rows
set_option maxRecDepth 100000 in
set_option maxHeartbeats 0 in
theorem PySem.Challenge.cw_elderinn_k06_whole_none_fuller_holds : PySem.Challenge.rw_elderinn_k06_whole_none_fuller.Holds := by
  w_on; o_law; k_head; (case hw => w_witness2)
  k_fill
  refine L2.walk_of (l := PySem.Challenge.rw_elderinn_k06_whole_none_fuller) (n := 63) (k := 5) (x := "script") (CX := fun _ => L2.CX0) (sp := fun w => El.sp_law _) rfl (by decide) rfl ⟨rfl, by decide, by decide⟩ (fun w h Y => PySem.W.kIn_of Y) ?F (fun _ _ a ns hl _ hS => ⟨a, ns, rfl, hS, hl, fun _ => rfl⟩) (fun _ _ _ _ _ h => h)
  case F =>
    intro w mg fa h KX G hmg
    refine' El.all_mk KX G hmg ?a1 ?l1 ?c1 ?k1 ?a2 ?l2 ?c2 ?k2 ?a3 ?l3 ?c3 ?k3 ?a4 ?l4 ?c4 ?k4 ?a5 ?l5 ?c5 ?k5 ?a6 ?l6 ?c6 ?k6 ?a7 ?l7 ?c7 ?k7 ?a8 ?l8 ?c8 ?k8 ?a9 ?l9 ?c9 ?k9 ?a10 ?l10 ?c10 ?k10 ?a11 ?l11 ?c11 ?k11 ?a12 ?l12 ?c12 ?k12 ?a13 ?l13 ?c13 ?k13 ?a14 ?l14 ?c14 ?k14 ?a15 ?l15 ?c15 ?k15 ?a16 ?l16 ?c16 ?k16 ?a17 ?l17 ?c17 ?k17 ?a18 ?l18 ?c18 ?k18 ?a19 ?l19 ?c19 ?k19 ?z1 ?z2 ?z3 ?z4 ?z5 ?z6 ?z7 ?z8 ?z9 ?z10 ?z11 ?z12 ?z13 ?z14 ?z15 ?z16 ?z17 ?z18 ?z19 ?z20 ?z21 ?z22 ?z23
    (case a1 => k_is)
    (case l1 => k_is)
    (case c1 => k_is)
    (case k1 => k_is)
    (case a2 => k_is)
    (case l2 => k_is)
    (case c2 => k_is)
    (case k2 => k_is)
    (case a3 => k_is)
    (case l3 => k_is)
    (case c3 => k_is)
    (case k3 => k_is)
    (case a4 => k_is)
    (case l4 => k_is)
    (case c4 => k_is)
    (case k4 => k_is)
    (case a5 => k_is)
    (case l5 => k_is)
    (case c5 => k_is)
    (case k5 => k_is)
    (case a6 => k_is)
    (case l6 => k_is)
    (case c6 => k_is)
    (case k6 => k_is)
    (case a7 => k_is)
    (case l7 => k_is)
    (case c7 => k_is)
    (case k7 => k_is)
    (case a8 => k_is)
    (case l8 => k_is)
    (case c8 => k_is)
    (case k8 => k_is)
    (case a9 => k_is)
    (case l9 => k_is)
    (case c9 => k_is)
    (case k9 => k_is)
    (case a10 => k_is)
    (case l10 => k_is)
    (case c10 => k_is)
    (case k10 => k_is)
    (case a11 => k_is)
    (case l11 => k_is)
    (case c11 => k_is)
    (case k11 => k_is)
    (case a12 => k_is)
    (case l12 => k_is)
    (case c12 => k_is)
    (case k12 => k_is)
    (case a13 => k_is)
    (case l13 => k_is)
    (case c13 => k_is)
    (case k13 => k_is)
    (case a14 => k_is)
    (case l14 => k_is)
    (case c14 => k_is)
    (case k14 => k_is)
    (case a15 => k_is)
    (case l15 => k_is)
    (case c15 => k_is)
    (case k15 => k_is)
    (case a16 => k_is)
    (case l16 => k_is)
    (case c16 => k_is)
    (case k16 => k_is)
    (case a17 => k_is)
    (case l17 => k_is)
    (case c17 => k_is)
    (case k17 => k_is)
    (case a18 => k_is)
    (case l18 => k_is)
    (case c18 => k_is)
    (case k18 => k_is)
    (case a19 => k_is)
    (case l19 => k_is)
    (case c19 => k_is)
    (case k19 => k_is)
    (case z1 => k_is)
    (case z2 => k_is)
    (case z3 => k_is)
    (case z4 => k_is)
    (case z5 => k_is)
    (case z6 => k_is)
    (case z7 => k_is)
    (case z8 => k_is)
    (case z9 => k_is)
    (case z10 => k_is)
    (case z11 => k_is)
    (case z12 => k_is)
    (case z13 => k_is)
    (case z14 => k_is)
    (case z15 => k_is)
    (case z16 => k_is)
    (case z17 => k_is)
    (case z18 => k_is)
    (case z19 => k_is)
    (case z20 => k_is)
    (case z21 => k_is)
    (case z22 => k_is)
    (case z23 => k_is)
