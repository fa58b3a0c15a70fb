import PyProof.Rows.All
import Wide.All
import OpenK.AllK
import Wide.FinOn
import HandS.ForMost
import HandS.ForExc
import HandS.Wide
import HandS.SortKw
import HandS.SortRule
import HandS.SortInts
import HandS.Style
import HandS.IsInst
import HandS.Conv
import HandS.Walk
import HandS.Flow
import HandS.More
import HandS.Defaults
import HandS.RaiseMore
import HandS.Remove
import HandS.Star
import HandS.Steps
import HandS.Strs
import HandS.SetFor
import HandS.Zip
import HandS.ListItems
import KE.DatumOrd
import HandS.Wide
import HandS.WideBits
import HandS.Star
import PySem.Challenge.RW_elderinn_k26_whole_more_patience_fuller
set_option Elab.async false
set_option linter.all false
set_option maxRecDepth 100000
set_option maxHeartbeats 8000000
namespace El
/-! ### the rule by age, in plain lists -/
def place : List (List Int) → Int → Int → List (List Int)
  | [], a, _ => [[a]]
  | r :: rs, a, p => if (r.length : Int) ≤ p then (r ++ [a]) :: rs else r :: place rs a p
def firstB : List (List Int) → Int → Nat
  | [], _ => 0
  | r :: rs, p => if (r.length : Int) ≤ p then 0 else firstB rs p + 1
theorem firstB_le : ∀ (rs : List (List Int)) (p : Int), firstB rs p ≤ rs.length
  | [], _ => Nat.le_refl _
  | r :: rs, p => by
    unfold firstB
    split
    · exact Nat.zero_le _
    · exact Nat.succ_le_succ (firstB_le rs p)
theorem firstB_out : ∀ (rs : List (List Int)) (p : Int) (i : Nat) (r : List Int), i < firstB rs p → rs[i]? = some r → p < (r.length : Int)
  | [], _, _, _, h, _ => absurd h (Nat.not_lt_zero _)
  | s :: rs, p, i, r, h, e => by
    unfold firstB at h
    split at h
    · exact absurd h (Nat.not_lt_zero _)
    · rename_i hn
      cases i with
      | zero =>
        have e' : s = r := Option.some.inj e
        subst e'
        omega
      | succ i => exact firstB_out rs p i r (Nat.lt_of_succ_lt_succ h) (by simpa using e)
theorem firstB_in : ∀ (rs : List (List Int)) (p : Int), firstB rs p < rs.length → ∃ r, rs[firstB rs p]? = some r ∧ (r.length : Int) ≤ p
  | [], _, h => absurd h (Nat.not_lt_zero _)
  | s :: rs, p, h => by
    unfold firstB at h ⊢
    split
    · rename_i hn
      exact ⟨s, rfl, hn⟩
    · rename_i hn
      rw [if_neg hn] at h
      obtain ⟨r, e, q⟩ := firstB_in rs p (Nat.lt_of_succ_lt_succ h)
      exact ⟨r, by simpa using e, q⟩
theorem firstB_is : ∀ (rs : List (List Int)) (p : Int) (i : Nat), i ≤ rs.length → (∀ j r, j < i → rs[j]? = some r → p < (r.length : Int)) → (∀ r, rs[i]? = some r → (r.length : Int) ≤ p) → firstB rs p = i
  | [], _, i, h, _, _ => by
    have : i = 0 := Nat.le_zero.mp h
    subst this
    rfl
  | s :: rs, p, 0, _, _, h2 => by
    unfold firstB
    rw [if_pos (h2 s rfl)]
  | s :: rs, p, i + 1, h, h1, h2 => by
    have h0 := h1 0 s (Nat.succ_pos _) rfl
    unfold firstB
    rw [if_neg (by omega), firstB_is rs p i (Nat.le_of_succ_le_succ h) (fun j r hj e => h1 (j + 1) r (Nat.succ_lt_succ hj) (by simpa using e)) fun r e => h2 r (by simpa using e)]
theorem place_new : ∀ (rs : List (List Int)) (a p : Int), firstB rs p = rs.length → place rs a p = rs ++ [[a]]
  | [], _, _, _ => rfl
  | r :: rs, a, p, h => by
    unfold firstB at h
    unfold place
    split at h
    · exact absurd h (by rw [List.length_cons]; omega)
    · rename_i hn
      rw [if_neg hn, place_new rs a p (by rw [List.length_cons] at h; omega)]
      rfl
theorem place_at : ∀ (rs : List (List Int)) (a p : Int) (r : List Int), rs[firstB rs p]? = some r → place rs a p = rs.set (firstB rs p) (r ++ [a])
  | [], _, _, _, h => by simp at h
  | s :: rs, a, p, r, h => by
    unfold firstB at h ⊢
    unfold place
    split
    · rename_i hn
      rw [if_pos hn] at h
      have e : s = r := Option.some.inj h
      subst e
      rfl
    · rename_i hn
      rw [if_neg hn] at h
      rw [place_at rs a p r (by simpa using h)]
      rfl
theorem place_len (rs : List (List Int)) (a p : Int) : (place rs a p).length = if firstB rs p = rs.length then rs.length + 1 else rs.length := by
  by_cases h : firstB rs p = rs.length
  · rw [if_pos h, place_new rs a p h, List.length_append]
    rfl
  · have hl := firstB_le rs p
    obtain ⟨r, e, _⟩ := firstB_in rs p (by omega)
    rw [if_neg h, place_at rs a p r e, List.length_set]
/-- all in order -/
def settleL (gs : List (Int × Int)) : List (List Int) := gs.foldl (fun rs g => place rs g.1 g.2) []
theorem settleL_snoc (gs : List (Int × Int)) (g : Int × Int) : settleL (gs ++ [g]) = place (settleL gs) g.1 g.2 := by
  unfold settleL
  rw [List.foldl_append]
  rfl
theorem settleL_take {gs : List (Int × Int)} {i : Nat} {g : Int × Int} (h : gs[i]? = some g) : settleL (gs.take (i + 1)) = place (settleL (gs.take i)) g.1 g.2 := by
  rw [List.take_add_one, h]
  exact settleL_snoc _ _
theorem place_count (rs : List (List Int)) (a p : Int) : (place rs a p).flatten.length = rs.flatten.length + 1 := by
  induction rs with
  | nil => rfl
  | cons r rs ih =>
    unfold place
    split
    · simp only [List.flatten_cons, List.length_append, List.length_cons, List.length_nil]
      omega
    · simp only [List.flatten_cons, List.length_append]
      omega
theorem settleL_count (gs : List (Int × Int)) : (settleL gs).flatten.length = gs.length := by
  suffices h : ∀ (gs : List (Int × Int)) (rs : List (List Int)), (gs.foldl (fun rs g => place rs g.1 g.2) rs).flatten.length = rs.flatten.length + gs.length by
    have q := h gs []
    rw [List.flatten_nil, List.length_nil, Nat.zero_add] at q
    exact q
  intro gs
  induction gs with
  | nil => intro rs; rfl
  | cons g gs ih =>
    intro rs
    rw [List.foldl_cons, ih, place_count, List.length_cons]
    omega
theorem place_ne (rs : List (List Int)) (a p : Int) (h : ∀ r ∈ rs, r ≠ []) : ∀ r ∈ place rs a p, r ≠ [] := by
  induction rs with
  | nil =>
    intro r hr
    rw [List.mem_singleton.mp hr]
    exact List.cons_ne_nil _ _
  | cons s rs ih =>
    unfold place
    split
    · intro r hr
      rcases List.mem_cons.mp hr with e | hr
      · rw [e]
        simp
      · exact h r (List.mem_cons_of_mem _ hr)
    · intro r hr
      rcases List.mem_cons.mp hr with e | hr
      · rw [e]
        exact h s List.mem_cons_self
      · exact ih (fun r hr => h r (List.mem_cons_of_mem _ hr)) r hr
theorem settleL_ne (gs : List (Int × Int)) : ∀ r ∈ settleL gs, r ≠ [] := by
  suffices h : ∀ (gs : List (Int × Int)) (rs : List (List Int)), (∀ r ∈ rs, r ≠ []) → ∀ r ∈ gs.foldl (fun rs g => place rs g.1 g.2) rs, r ≠ [] from h gs [] (fun r hr => absurd hr (by simp))
  intro gs
  induction gs with
  | nil => intro rs h; exact h
  | cons g gs ih =>
    intro rs h
    rw [List.foldl_cons]
    exact ih _ (place_ne rs _ _ h)
theorem len_le_flat : ∀ (rs : List (List Int)), (∀ r ∈ rs, r ≠ []) → rs.length ≤ rs.flatten.length
  | [], _ => Nat.le_refl _
  | r :: rs, h => by
    have h1 := h r List.mem_cons_self
    have h2 := len_le_flat rs fun r hr => h r (List.mem_cons_of_mem _ hr)
    have h3 : 0 < r.length := List.length_pos_iff.mpr h1
    rw [List.flatten_cons, List.length_append, List.length_cons]
    omega
theorem room_le_flat : ∀ (rs : List (List Int)) (r : List Int), r ∈ rs → r.length ≤ rs.flatten.length
  | s :: rs, r, h => by
    rw [List.flatten_cons, List.length_append]
    rcases List.mem_cons.mp h with e | h
    · rw [e]
      omega
    · have := room_le_flat rs r h
      omega
theorem settleL_len (gs : List (Int × Int)) : (settleL gs).length ≤ gs.length := by
  rw [← settleL_count gs]
  exact len_le_flat _ (settleL_ne gs)
theorem settleL_room {gs : List (Int × Int)} {r : List Int} (h : r ∈ settleL gs) : r.length ≤ gs.length := by
  rw [← settleL_count gs]
  exact room_le_flat _ _ h
/-- sizes never rise -/
def Falls (rs : List (List Int)) : Prop := rs.Pairwise fun r s => s.length ≤ r.length
theorem place_mem {rs : List (List Int)} {a p : Int} {r : List Int} (h : r ∈ place rs a p) : r ∈ rs ∨ (∃ s ∈ rs, r = s ++ [a] ∧ (s.length : Int) ≤ p) ∨ r = [a] := by
  induction rs with
  | nil => exact .inr (.inr (List.mem_singleton.mp h))
  | cons s rs ih =>
    unfold place at h
    split at h
    · rename_i hn
      rcases List.mem_cons.mp h with e | h
      · exact .inr (.inl ⟨s, List.mem_cons_self, e, hn⟩)
      · exact .inl (List.mem_cons_of_mem _ h)
    · rcases List.mem_cons.mp h with e | h
      · rw [e]
        exact .inl List.mem_cons_self
      · rcases ih h with q | ⟨t, ht, q⟩ | q
        · exact .inl (List.mem_cons_of_mem _ q)
        · exact .inr (.inl ⟨t, List.mem_cons_of_mem _ ht, q⟩)
        · exact .inr (.inr q)
theorem place_falls (rs : List (List Int)) (a p : Int) (hp : 0 ≤ p) (h : Falls rs) : Falls (place rs a p) := by
  induction rs with
  | nil => exact List.pairwise_singleton _ _
  | cons s rs ih =>
    obtain ⟨h1, h2⟩ := List.pairwise_cons.mp h
    unfold place
    split
    · refine List.pairwise_cons.mpr ⟨fun r hr => ?_, h2⟩
      have := h1 r hr
      rw [List.length_append]
      omega
    · rename_i hn
      refine List.pairwise_cons.mpr ⟨fun r hr => ?_, ih h2⟩
      rcases place_mem hr with q | ⟨t, ht, q, q2⟩ | q
      · exact h1 r q
      · rw [q, List.length_append, List.length_singleton]
        omega
      · rw [q, List.length_singleton]
        omega
theorem settleL_falls (gs : List (Int × Int)) (h : ∀ g ∈ gs, 0 ≤ g.2) : Falls (settleL gs) := by
  suffices q : ∀ (gs : List (Int × Int)) (rs : List (List Int)), (∀ g ∈ gs, 0 ≤ g.2) → Falls rs → Falls (gs.foldl (fun rs g => place rs g.1 g.2) rs) from q gs [] h List.Pairwise.nil
  intro gs
  induction gs with
  | nil => intro rs _ hr; exact hr
  | cons g gs ih =>
    intro rs hg hr
    rw [List.foldl_cons]
    exact ih _ (fun x hx => hg x (List.mem_cons_of_mem _ hx)) (place_falls rs _ _ (hg g List.mem_cons_self) hr)
/-! ### from the eldest on -/
def byAge (gs : List (Int × Int)) : List (Int × Int) := gs.mergeSort fun g h => decide (h.1 ≤ g.1)
theorem byAge_perm (gs : List (Int × Int)) : (byAge gs).Perm gs := List.mergeSort_perm _ _
theorem byAge_sorted (gs : List (Int × Int)) : (byAge gs).Pairwise fun g h => h.1 ≤ g.1 := by
  have q := List.pairwise_mergeSort (le := fun (g h : Int × Int) => decide (h.1 ≤ g.1)) (fun a b c h1 h2 => by
    have h1 := of_decide_eq_true h1
    have h2 := of_decide_eq_true h2
    exact decide_eq_true (by omega)) (fun a b => by
    by_cases h : b.1 ≤ a.1
    · simp [h]
    · have : a.1 ≤ b.1 := by omega
      simp [this]) gs
  exact q.imp fun h => of_decide_eq_true h
theorem byAge_length (gs : List (Int × Int)) : (byAge gs).length = gs.length := (byAge_perm gs).length_eq
theorem sorted_uniq {α : Type} (k : α → Int) : ∀ {l m : List α}, l.Perm m → (l.map k).Nodup → l.Pairwise (fun g h => k h ≤ k g) → m.Pairwise (fun g h => k h ≤ k g) → l = m
  | [], m, p, _, _, _ => by rw [List.nil_perm.mp p]
  | x :: l, [], p, _, _, _ => absurd p.length_eq (by simp)
  | x :: l, y :: m, p, nd, h1, h2 => by
    have nd' : (k x :: l.map k).Nodup := nd
    obtain ⟨n1, n2⟩ := List.nodup_cons.mp nd'
    obtain ⟨a1, a2⟩ := List.pairwise_cons.mp h1
    obtain ⟨b1, b2⟩ := List.pairwise_cons.mp h2
    have e : x = y := by
      rcases List.mem_cons.mp (p.mem_iff.mp List.mem_cons_self) with e | hx
      · exact e
      · have hy : y ∈ x :: l := p.mem_iff.mpr List.mem_cons_self
        rcases List.mem_cons.mp hy with e | hy
        · exact e.symm
        · have c1 := b1 x hx
          have c2 := a1 y hy
          have c3 : k x = k y := by omega
          exact absurd (List.mem_map.mpr ⟨y, hy, c3.symm⟩) n1
    subst e
    rw [sorted_uniq k (List.Perm.cons_inv p) n2 a2 b2]
def settle (gs : List (Int × Int)) : List (List Int) := settleL (byAge gs)
/-- guests that there can be -/
structure Fit (gs : List (Int × Int)) : Prop where
  nd : (gs.map (·.1)).Nodup
  pos : ∀ g ∈ gs, 0 ≤ g.2
theorem Fit.perm {gs hs : List (Int × Int)} (f : Fit gs) (p : hs.Perm gs) : Fit hs := ⟨((p.map (·.1)).nodup_iff).mpr f.nd, fun g hg => f.pos g (p.mem_iff.mp hg)⟩
theorem Fit.byAge {gs : List (Int × Int)} (f : Fit gs) : Fit (byAge gs) := f.perm (byAge_perm gs)
theorem byAge_of {gs hs : List (Int × Int)} (f : Fit gs) (p : hs.Perm gs) (h : hs.Pairwise fun g h => h.1 ≤ g.1) : hs = byAge gs :=
  sorted_uniq (·.1) (p.trans (byAge_perm gs).symm) (f.perm p).nd h (byAge_sorted gs)
theorem byAge_congr {gs hs : List (Int × Int)} (f : Fit gs) (p : hs.Perm gs) : byAge hs = byAge gs :=
  byAge_of f ((byAge_perm hs).trans p) (byAge_sorted hs)
theorem ages_of {gs : List (Int × Int)} (f : Fit gs) {ns : List Int} (p : ns.Perm (gs.map (·.1))) (h : ns.Pairwise (· ≥ ·)) : ns = (byAge gs).map (·.1) := by
  refine sorted_uniq (fun x : Int => x) (p.trans ((byAge_perm gs).map (·.1)).symm) ?_ (h.imp fun q => q) ?_
  · rw [List.map_id']
    exact (p.nodup_iff).mpr f.nd
  · rw [List.pairwise_map]
    exact byAge_sorted gs
theorem settle_congr {gs hs : List (Int × Int)} (f : Fit gs) (p : hs.Perm gs) : settle hs = settle gs := by
  unfold settle
  rw [byAge_congr f p]
end El
namespace El
/-! ### who has more elders than they bear -/
def down (ns : List Int) : List Int := ns.mergeSort fun a b => decide (b ≤ a)
theorem down_perm (ns : List Int) : (down ns).Perm ns := List.mergeSort_perm _ _
theorem down_sorted (ns : List Int) : (down ns).Pairwise (· ≥ ·) := by
  have q := List.pairwise_mergeSort (le := fun (g h : Int) => decide (h ≤ g)) (fun a b c h1 h2 => by
    have h1 := of_decide_eq_true h1
    have h2 := of_decide_eq_true h2
    exact decide_eq_true (by omega)) (fun a b => by
    by_cases h : b ≤ a
    · simp [h]
    · have : a ≤ b := by omega
      simp [this]) ns
  exact q.imp fun h => of_decide_eq_true h
theorem desc_uniq : ∀ {l m : List Int}, l.Perm m → l.Pairwise (· ≥ ·) → m.Pairwise (· ≥ ·) → l = m
  | [], m, p, _, _ => by rw [List.nil_perm.mp p]
  | x :: l, [], p, _, _ => absurd p.length_eq (by simp)
  | x :: l, y :: m, p, h1, h2 => by
    obtain ⟨a1, a2⟩ := List.pairwise_cons.mp h1
    obtain ⟨b1, b2⟩ := List.pairwise_cons.mp h2
    have e : x = y := by
      rcases List.mem_cons.mp (p.mem_iff.mp List.mem_cons_self) with e | hx
      · exact e
      · have hy : y ∈ x :: l := p.mem_iff.mpr List.mem_cons_self
        rcases List.mem_cons.mp hy with e | hy
        · exact e.symm
        · have c1 := b1 x hx
          have c2 := a1 y hy
          omega
    subst e
    rw [desc_uniq (List.Perm.cons_inv p) a2 b2]
theorem down_is {l ns : List Int} (p : l.Perm ns) (h : l.Pairwise (· ≥ ·)) : l = down ns := desc_uniq (p.trans (down_perm ns).symm) h (down_sorted ns)
def pof (gs : List (Int × Int)) (a : Int) : Int := match gs.find? fun g => decide (g.1 = a) with | some g => g.2 | none => 0
theorem pof_is : ∀ {gs : List (Int × Int)} {g : Int × Int}, (gs.map (·.1)).Nodup → g ∈ gs → pof gs g.1 = g.2
  | x :: gs, g, nd, h => by
    have nd' : (x.1 :: gs.map (·.1)).Nodup := nd
    obtain ⟨n1, n2⟩ := List.nodup_cons.mp nd'
    rcases List.mem_cons.mp h with e | h
    · subst e
      unfold pof
      rw [List.find?_cons_of_pos (by simp)]
    · have n : ¬ x.1 = g.1 := fun z => n1 (by rw [z]; exact List.mem_map.mpr ⟨g, h, rfl⟩)
      have := pof_is n2 h
      unfold pof at this ⊢
      rw [List.find?_cons_of_neg (by simpa using n)]
      exact this
def upIn (pf : Int → Int) : List Int → Nat → Option Int
  | [], _ => none
  | a :: l, i => if pf a < (i : Int) then some a else upIn pf l (i + 1)
theorem upIn_none {pf : Int → Int} : ∀ {l : List Int} {k : Nat}, (∀ (i : Nat) (a : Int), l[i]? = some a → ((i + k : Nat) : Int) ≤ pf a) → upIn pf l k = none
  | [], _, _ => rfl
  | a :: l, k, h => by
    unfold upIn
    have h0 := h 0 a rfl
    rw [if_neg (by omega)]
    exact upIn_none fun i b e => by
      have := h (i + 1) b (by simpa using e)
      omega
theorem upIn_at {pf : Int → Int} {l : List Int} {a : Int} : ∀ {i k : Nat}, l[i]? = some a → (∀ (j : Nat) (b : Int), j < i → l[j]? = some b → ((j + k : Nat) : Int) ≤ pf b) → pf a < ((i + k : Nat) : Int) → upIn pf l k = some a := by
  induction l with
  | nil => intro i k e; simp at e
  | cons x l ih =>
    intro i k e h1 h2
    unfold upIn
    cases i with
    | zero =>
      obtain rfl : x = a := Option.some.inj e
      rw [if_pos (by omega)]
    | succ i =>
      have h0 := h1 0 x (Nat.succ_pos _) rfl
      rw [if_neg (by omega)]
      exact ih (i := i) (by simpa using e) (fun j b hj e' => by
        have := h1 (j + 1) b (Nat.succ_lt_succ hj) (by simpa using e')
        omega) (by omega)
def eldUp (gs : List (Int × Int)) (ns : List Int) : Option Int := upIn (pof gs) (down ns) 0
def upsetOf (gs : List (Int × Int)) : List (List Int) → Nat → Option (Nat × Int)
  | [], _ => none
  | r :: rs, i => match eldUp gs r with | some a => some (i, a) | none => upsetOf gs rs (i + 1)
theorem upsetOf_none {gs : List (Int × Int)} : ∀ {rs : List (List Int)} {k : Nat}, (∀ r ∈ rs, eldUp gs r = none) → upsetOf gs rs k = none
  | [], _, _ => rfl
  | r :: rs, k, h => by
    unfold upsetOf
    rw [h r List.mem_cons_self]
    exact upsetOf_none fun s m => h s (List.mem_cons_of_mem _ m)
theorem upsetOf_at {gs : List (Int × Int)} {rs : List (List Int)} {r : List Int} {a : Int} : ∀ {i k : Nat}, rs[i]? = some r → (∀ (j : Nat) (s : List Int), j < i → rs[j]? = some s → eldUp gs s = none) → eldUp gs r = some a → upsetOf gs rs k = some (i + k, a) := by
  induction rs with
  | nil => intro i k e; simp at e
  | cons x rs ih =>
    intro i k e h1 h2
    unfold upsetOf
    cases i with
    | zero =>
      obtain rfl : x = r := Option.some.inj e
      rw [h2, Nat.zero_add]
    | succ i =>
      rw [h1 0 x (Nat.succ_pos _) rfl]
      have z := ih (i := i) (k := k + 1) (by simpa using e) (fun j b hj e' => h1 (j + 1) b (Nat.succ_lt_succ hj) (by simpa using e')) h2
      show upsetOf gs rs (k + 1) = _
      rw [z, show i + (k + 1) = i + 1 + k by omega]
/-! ### the rooms by age are in peace -/
def Fine (L : List (Int × Int)) (r : List Int) : Prop := r.Pairwise (· ≥ ·) ∧ ∀ (i : Nat) (a : Int), r[i]? = some a → ∃ g ∈ L, g.1 = a ∧ (i : Int) ≤ g.2
theorem Fine.mem {L : List (Int × Int)} {r : List Int} (h : Fine L r) {a : Int} (m : a ∈ r) : ∃ g ∈ L, g.1 = a := by
  obtain ⟨i, e⟩ := List.mem_iff_getElem?.mp m
  obtain ⟨g, h1, h2, _⟩ := h.2 i a e
  exact ⟨g, h1, h2⟩
theorem Fine.more {L M : List (Int × Int)} {r : List Int} (h : Fine L r) (k : ∀ g ∈ L, g ∈ M) : Fine M r := ⟨h.1, fun i a e => by
  obtain ⟨g, h1, h2⟩ := h.2 i a e
  exact ⟨g, k g h1, h2⟩⟩
theorem settleL_fine {L : List (Int × Int)} (hL : L.Pairwise fun g h => h.1 ≤ g.1) (hp : ∀ g ∈ L, 0 ≤ g.2) : ∀ i, i ≤ L.length → ∀ r ∈ settleL (L.take i), Fine (L.take i) r
  | 0, _, r, hr => by
    rw [List.take_zero] at hr
    exact absurd hr (List.not_mem_nil)
  | i + 1, hi, r, hr => by
    have ih := settleL_fine hL hp i (by omega)
    have eg : L[i]? = some L[i] := List.getElem?_eq_getElem hi
    generalize hg : L[i] = g at eg
    have hm : g ∈ L := List.mem_of_getElem? eg
    have hle : ∀ x ∈ L.take i, g.1 ≤ x.1 := by
      have e2 : L = L.take i ++ g :: L.drop (i + 1) := by
        have := List.getElem_cons_drop (as := L) (i := i) hi
        rw [hg] at this
        rw [this, List.take_append_drop]
      rw [e2] at hL
      exact fun x hx => (List.pairwise_append.mp hL).2.2 x hx g List.mem_cons_self
    have et : L.take (i + 1) = L.take i ++ [g] := by
      rw [List.take_add_one, eg]
      rfl
    rw [settleL_take eg] at hr
    rw [et]
    rcases place_mem hr with q | ⟨s, hs, e, hle2⟩ | q
    · exact (ih r q).more fun x hx => List.mem_append_left _ hx
    · have hF := ih s hs
      subst e
      refine ⟨?_, fun j a e => ?_⟩
      · rw [List.pairwise_append]
        refine ⟨hF.1, List.pairwise_singleton _ _, fun x hx y hy => ?_⟩
        rw [List.mem_singleton.mp hy]
        obtain ⟨z, hz, rfl⟩ := hF.mem hx
        exact hle z hz
      · by_cases hj : j < s.length
        · rw [List.getElem?_append_left hj] at e
          obtain ⟨z, h1, h2⟩ := hF.2 j a e
          exact ⟨z, List.mem_append_left _ h1, h2⟩
        · rw [List.getElem?_append_right (by omega)] at e
          have hj0 : j - s.length = 0 := by
            have := (List.getElem?_eq_some_iff.mp e).1
            rw [List.length_singleton] at this
            omega
          rw [hj0] at e
          obtain rfl : g.1 = a := Option.some.inj e
          exact ⟨g, List.mem_append_right _ (List.mem_singleton.mpr rfl), rfl, by omega⟩
    · subst q
      refine ⟨List.pairwise_singleton _ _, fun j a e => ?_⟩
      have hj0 : j = 0 := by
        have := (List.getElem?_eq_some_iff.mp e).1
        rw [List.length_singleton] at this
        omega
      subst hj0
      obtain rfl : g.1 = a := Option.some.inj e
      exact ⟨g, List.mem_append_right _ (List.mem_singleton.mpr rfl), rfl, hp g hm⟩
theorem settle_fine {gs : List (Int × Int)} (f : Fit gs) {r : List Int} (hr : r ∈ settle gs) : Fine gs r := by
  have h := settleL_fine (byAge_sorted gs) f.byAge.pos (byAge gs).length (Nat.le_refl _) r (by rw [List.take_length]; exact hr)
  rw [List.take_length] at h
  exact h.more fun g hg => (byAge_perm gs).mem_iff.mp hg
theorem settle_calm {gs : List (Int × Int)} (f : Fit gs) {r : List Int} (hr : r ∈ settle gs) : eldUp gs r = none := by
  obtain ⟨h1, h2⟩ := settle_fine f hr
  unfold eldUp
  rw [← down_is (List.Perm.refl r) h1]
  refine upIn_none fun i a e => ?_
  obtain ⟨g, hg, rfl, hl⟩ := h2 i a e
  rw [pof_is f.nd hg]
  exact hl
theorem place_perm : ∀ (rs : List (List Int)) (a p : Int), (place rs a p).flatten.Perm (a :: rs.flatten)
  | [], a, p => List.Perm.refl _
  | r :: rs, a, p => by
    unfold place
    split
    · rw [List.flatten_cons, List.flatten_cons, List.append_assoc]
      exact List.perm_middle
    · rw [List.flatten_cons, List.flatten_cons]
      exact ((place_perm rs a p).append_left r).trans List.perm_middle
theorem foldl_place_perm : ∀ (L : List (Int × Int)) (rs : List (List Int)), (L.foldl (fun rs g => place rs g.1 g.2) rs).flatten.Perm (L.map (·.1) ++ rs.flatten)
  | [], rs => List.Perm.refl _
  | g :: L, rs => by
    rw [List.foldl_cons]
    refine (foldl_place_perm L _).trans (((place_perm rs g.1 g.2).append_left _).trans ?_)
    rw [List.map_cons, List.cons_append]
    exact List.perm_middle
theorem settle_flat (gs : List (Int × Int)) : (settle gs).flatten.Perm (gs.map (·.1)) := by
  have h := foldl_place_perm (byAge gs) []
  rw [List.flatten_nil, List.append_nil] at h
  exact h.trans ((byAge_perm gs).map _)
/-! ### those behind the first j rooms -/
theorem take_place_lt : ∀ (rs : List (List Int)) (a p : Int) (j : Nat), firstB rs p < j → (place rs a p).take j = place (rs.take j) a p
  | _, _, _, 0, h => absurd h (Nat.not_lt_zero _)
  | [], a, p, j + 1, _ => by
    rw [List.take_nil]
    unfold place
    rw [List.take_succ_cons, List.take_nil]
  | r :: rs, a, p, j + 1, h => by
    unfold firstB at h
    rw [List.take_succ_cons]
    unfold place
    split at h
    · rename_i q
      rw [if_pos q, if_pos q, List.take_succ_cons]
    · rename_i q
      rw [if_neg q, if_neg q, List.take_succ_cons, take_place_lt rs a p j (by omega)]
theorem take_place_ge : ∀ (rs : List (List Int)) (a p : Int) (j : Nat), j ≤ firstB rs p → (place rs a p).take j = rs.take j
  | _, _, _, 0, _ => by rw [List.take_zero, List.take_zero]
  | [], a, p, j + 1, h => absurd h (Nat.not_succ_le_zero _)
  | r :: rs, a, p, j + 1, h => by
    unfold firstB at h
    unfold place
    split at h
    · exact absurd h (Nat.not_succ_le_zero _)
    · rename_i q
      rw [if_neg q, List.take_succ_cons, List.take_succ_cons, take_place_ge rs a p j (by omega)]
theorem drop_place_lt : ∀ (rs : List (List Int)) (a p : Int) (j : Nat), firstB rs p < j → (place rs a p).drop j = rs.drop j
  | _, _, _, 0, h => absurd h (Nat.not_lt_zero _)
  | [], a, p, j + 1, _ => by
    unfold place
    rw [List.drop_succ_cons, List.drop_nil, List.drop_nil]
  | r :: rs, a, p, j + 1, h => by
    unfold firstB at h
    unfold place
    split at h
    · rename_i q
      rw [if_pos q, List.drop_succ_cons, List.drop_succ_cons]
    · rename_i q
      rw [if_neg q, List.drop_succ_cons, List.drop_succ_cons, drop_place_lt rs a p j (by omega)]
theorem drop_place_ge : ∀ (rs : List (List Int)) (a p : Int) (j : Nat), j ≤ firstB rs p → (place rs a p).drop j = place (rs.drop j) a p
  | _, _, _, 0, _ => by rw [List.drop_zero, List.drop_zero]
  | [], a, p, j + 1, h => absurd h (Nat.not_succ_le_zero _)
  | r :: rs, a, p, j + 1, h => by
    unfold firstB at h
    split at h
    · exact absurd h (Nat.not_succ_le_zero _)
    · rename_i q
      rw [List.drop_succ_cons]
      show (if (r.length : Int) ≤ p then (r ++ [a]) :: rs else r :: place rs a p).drop (j + 1) = _
      rw [if_neg q, List.drop_succ_cons, drop_place_ge rs a p j (by omega)]
def kept (j : Nat) : List (List Int) → List (Int × Int) → List (Int × Int)
  | _, [] => []
  | rs, g :: L => if firstB rs g.2 < j then g :: kept j (place rs g.1 g.2) L else kept j (place rs g.1 g.2) L
def gone (j : Nat) : List (List Int) → List (Int × Int) → List (Int × Int)
  | _, [] => []
  | rs, g :: L => if firstB rs g.2 < j then gone j (place rs g.1 g.2) L else g :: gone j (place rs g.1 g.2) L
theorem gone_sub (j : Nat) : ∀ (L : List (Int × Int)) (rs : List (List Int)), ∀ g ∈ gone j rs L, g ∈ L
  | [], _, g, h => h
  | x :: L, rs, g, h => by
    unfold gone at h
    split at h
    · exact List.mem_cons_of_mem _ (gone_sub j L _ g h)
    · rcases List.mem_cons.mp h with e | h
      · rw [e]
        exact List.mem_cons_self
      · exact List.mem_cons_of_mem _ (gone_sub j L _ g h)
theorem kept_settle (j : Nat) : ∀ (L : List (Int × Int)) (rs : List (List Int)), (kept j rs L).foldl (fun rs g => place rs g.1 g.2) (rs.take j) = (L.foldl (fun rs g => place rs g.1 g.2) rs).take j
  | [], _ => rfl
  | g :: L, rs => by
    rw [List.foldl_cons]
    unfold kept
    split
    · rename_i h
      rw [List.foldl_cons, ← take_place_lt rs g.1 g.2 j h]
      exact kept_settle j L _
    · rename_i h
      rw [← take_place_ge rs g.1 g.2 j (by omega)]
      exact kept_settle j L _
theorem gone_settle (j : Nat) : ∀ (L : List (Int × Int)) (rs : List (List Int)), ((L.foldl (fun rs g => place rs g.1 g.2) rs).drop j).flatten.Perm ((gone j rs L).map (·.1) ++ (rs.drop j).flatten)
  | [], _ => List.Perm.refl _
  | g :: L, rs => by
    rw [List.foldl_cons]
    refine (gone_settle j L _).trans ?_
    show ((gone j (place rs g.1 g.2) L).map (·.1) ++ _).Perm ((if firstB rs g.2 < j then gone j (place rs g.1 g.2) L else g :: gone j (place rs g.1 g.2) L).map (·.1) ++ _)
    split
    · rename_i h
      rw [drop_place_lt rs g.1 g.2 j h]
    · rename_i h
      rw [drop_place_ge rs g.1 g.2 j (by omega), List.map_cons, List.cons_append]
      exact ((place_perm (rs.drop j) g.1 g.2).append_left _).trans List.perm_middle
theorem kept_filter (j : Nat) : ∀ (L : List (Int × Int)) (rs : List (List Int)) (S : List Int), (L.map (·.1)).Nodup → (∀ g ∈ L, g.1 ∈ S ↔ g.1 ∈ (gone j rs L).map (·.1)) → L.filter (fun g => !decide (g.1 ∈ S)) = kept j rs L
  | [], _, _, _, _ => rfl
  | g :: L, rs, S, nd, h => by
    have nd' : (g.1 :: L.map (·.1)).Nodup := nd
    obtain ⟨n1, n2⟩ := List.nodup_cons.mp nd'
    have h0 := h g List.mem_cons_self
    unfold kept
    by_cases q : firstB rs g.2 < j
    · have eg : gone j rs (g :: L) = gone j (place rs g.1 g.2) L := by
        show (if _ then _ else _) = _
        rw [if_pos q]
      rw [eg] at h h0
      have ng : ¬ g.1 ∈ S := fun z => by
        obtain ⟨x, hx, e⟩ := List.mem_map.mp (h0.mp z)
        exact n1 (List.mem_map.mpr ⟨x, gone_sub j L _ x hx, e⟩)
      rw [if_pos q, List.filter_cons_of_pos (by simpa using ng), kept_filter j L _ S n2 fun x hx => h x (List.mem_cons_of_mem _ hx)]
    · have eg : gone j rs (g :: L) = g :: gone j (place rs g.1 g.2) L := by
        show (if _ then _ else _) = _
        rw [if_neg q]
      rw [eg] at h h0
      have ng : g.1 ∈ S := h0.mpr List.mem_cons_self
      rw [if_neg q, List.filter_cons_of_neg (by simpa using ng)]
      refine kept_filter j L _ S n2 fun x hx => ?_
      have hx1 := h x (List.mem_cons_of_mem _ hx)
      rw [hx1, List.map_cons, List.mem_cons]
      have ne : ¬ x.1 = g.1 := fun z => n1 (by rw [← z]; exact List.mem_map.mpr ⟨x, hx, rfl⟩)
      exact ⟨fun z => z.resolve_left ne, .inr⟩
theorem Fit.filter {gs : List (Int × Int)} (f : Fit gs) (k : Int × Int → Bool) : Fit (gs.filter k) :=
  ⟨f.nd.sublist (List.filter_sublist.map _), fun g hg => f.pos g (List.mem_filter.mp hg).1⟩
theorem byAge_filter {gs : List (Int × Int)} (f : Fit gs) (k : Int × Int → Bool) : byAge (gs.filter k) = (byAge gs).filter k :=
  (byAge_of (f.filter k) ((byAge_perm gs).filter k) ((byAge_sorted gs).sublist List.filter_sublist)).symm
theorem settle_left {gs : List (Int × Int)} (f : Fit gs) {S : List Int} {j : Nat} (h : ∀ a, a ∈ S ↔ a ∈ ((settle gs).drop j).flatten) : settle (gs.filter fun g => !decide (g.1 ∈ S)) = (settle gs).take j := by
  unfold settle
  rw [byAge_filter f]
  have hg := gone_settle j (byAge gs) []
  rw [List.drop_nil, List.flatten_nil, List.append_nil] at hg
  rw [kept_filter j (byAge gs) [] S f.byAge.nd fun g _ => (h g.1).trans hg.mem_iff]
  have := kept_settle j (byAge gs) []
  rw [List.take_nil] at this
  exact this
def sentAway (gs : List (Int × Int)) (j : Nat) : List Int := down ((settle gs).drop j).flatten
theorem sentAway_mem (gs : List (Int × Int)) (j : Nat) (a : Int) : a ∈ sentAway gs j ↔ a ∈ ((settle gs).drop j).flatten := (down_perm _).mem_iff
end El
namespace El
/-! ### one guest more -/
/-- b is s with one more put in -/
def Plus (s b : List Int) : Prop := ∃ (A : List Int) (m : Int) (B : List Int), s = A ++ B ∧ b = A ++ m :: B
/-- where s has g, b has m ahead -/
def Swap (s b : List Int) : Prop := ∃ (A : List Int) (m : Int) (B : List Int) (g : Int) (C : List Int), s = A ++ B ++ g :: C ∧ b = A ++ m :: B ++ C
def Alike (s b : List Int) : Prop := s = b ∨ Swap s b
theorem Plus.len {s b : List Int} (h : Plus s b) : b.length = s.length + 1 := by
  obtain ⟨A, m, B, rfl, rfl⟩ := h
  rw [List.length_append, List.length_append, List.length_cons]
  omega
theorem Alike.len {s b : List Int} (h : Alike s b) : b.length = s.length := by
  rcases h with rfl | ⟨A, m, B, g, C, rfl, rfl⟩
  · rfl
  · simp only [List.length_append, List.length_cons]
    omega
theorem Plus.snoc {s b : List Int} (h : Plus s b) (a : Int) : Plus (s ++ [a]) (b ++ [a]) := by
  obtain ⟨A, m, B, rfl, rfl⟩ := h
  exact ⟨A, m, B ++ [a], by rw [List.append_assoc], by rw [List.append_assoc]; rfl⟩
theorem Alike.snoc {s b : List Int} (h : Alike s b) (a : Int) : Alike (s ++ [a]) (b ++ [a]) := by
  rcases h with rfl | ⟨A, m, B, g, C, rfl, rfl⟩
  · exact .inl rfl
  · exact .inr ⟨A, m, B, g, C ++ [a], by simp only [List.append_assoc, List.cons_append], by simp only [List.append_assoc, List.cons_append]⟩
inductive Near : List (List Int) → List (List Int) → Prop
  | new (m : Int) : Near [] [[m]]
  | here {s b : List Int} (h : Plus s b) (rest : List (List Int)) : Near (s :: rest) (b :: rest)
  | skip {s b : List Int} {ss bs : List (List Int)} (h : Alike s b) (r : Near ss bs) : Near (s :: ss) (b :: bs)
theorem Near.place (rs : List (List Int)) (a p : Int) : Near rs (El.place rs a p) := by
  induction rs with
  | nil => exact .new a
  | cons r rs ih =>
    unfold El.place
    split
    · exact .here ⟨r, a, [], by simp, rfl⟩ rs
    · exact .skip (.inl rfl) ih
theorem Near.step {s b : List (List Int)} (h : Near s b) (a p : Int) (hp : 0 ≤ p) : Near (El.place s a p) (El.place b a p) := by
  induction h with
  | new m =>
    unfold El.place
    split
    · exact .here (s := [a]) (b := [m] ++ [a]) ⟨[], m, [a], rfl, rfl⟩ []
    · refine .skip (.inr ⟨[], m, [], a, [], rfl, rfl⟩) ?_
      exact .new a
  | @here s b hb rest =>
    have hl := hb.len
    unfold El.place
    by_cases h1 : (s.length : Int) ≤ p
    · rw [if_pos h1]
      by_cases h2 : (b.length : Int) ≤ p
      · rw [if_pos h2]
        exact .here (hb.snoc a) rest
      · rw [if_neg h2]
        obtain ⟨A, m, B, rfl, rfl⟩ := hb
        exact .skip (.inr ⟨A, m, B, a, [], rfl, by simp⟩) (Near.place rest a p)
    · rw [if_neg h1, if_neg (by omega)]
      exact .here hb _
  | @skip s b ss bs hs r ih =>
    have hl := hs.len
    unfold El.place
    by_cases h1 : (s.length : Int) ≤ p
    · rw [if_pos h1, if_pos (by omega)]
      exact .skip (hs.snoc a) r
    · rw [if_neg h1, if_neg (by omega)]
      exact .skip hs ih
theorem Near.fold {s b : List (List Int)} (h : Near s b) : ∀ (gs : List (Int × Int)), (∀ g ∈ gs, 0 ≤ g.2) → Near (gs.foldl (fun rs g => El.place rs g.1 g.2) s) (gs.foldl (fun rs g => El.place rs g.1 g.2) b)
  | [], _ => h
  | g :: gs, hp => by
    rw [List.foldl_cons, List.foldl_cons]
    exact Near.fold (h.step g.1 g.2 (hp g List.mem_cons_self)) gs fun x hx => hp x (List.mem_cons_of_mem _ hx)
/-- the order with one more -/
theorem byAge_split {gs : List (Int × Int)} {x : Int × Int} (f : Fit (x :: gs)) : ∃ pre post, byAge (x :: gs) = pre ++ x :: post ∧ byAge gs = pre ++ post := by
  have hx : x ∈ byAge (x :: gs) := (byAge_perm _).mem_iff.mpr List.mem_cons_self
  obtain ⟨pre, post, e⟩ := List.append_of_mem hx
  refine ⟨pre, post, e, ?_⟩
  have fg : Fit gs := ⟨(List.nodup_cons.mp f.nd).2, fun g hg => f.pos g (List.mem_cons_of_mem _ hg)⟩
  refine (byAge_of fg ?_ ?_).symm
  · have p : (pre ++ x :: post).Perm (x :: gs) := e ▸ byAge_perm (x :: gs)
    exact List.Perm.cons_inv (List.perm_middle.symm.trans p)
  · have s := byAge_sorted (x :: gs)
    rw [e] at s
    rw [List.pairwise_append] at s ⊢
    obtain ⟨s1, s2, s3⟩ := s
    exact ⟨s1, (List.pairwise_cons.mp s2).2, fun a ha b hb => s3 a ha b (List.mem_cons_of_mem _ hb)⟩
theorem settle_near {gs : List (Int × Int)} {x : Int × Int} (f : Fit (x :: gs)) : Near (settle gs) (settle (x :: gs)) := by
  obtain ⟨pre, post, e1, e2⟩ := byAge_split f
  unfold settle settleL
  rw [e1, e2, List.foldl_append, List.foldl_append, List.foldl_cons]
  exact (Near.place _ x.1 x.2).fold post fun g hg => f.pos g ((byAge_perm _).mem_iff.mp (by rw [e1]; exact List.mem_append_right _ (List.mem_cons_of_mem _ hg)))
/-- sizes: one room one fuller -/
def bump (L : List Int) (d : Nat) : List Int := if d < L.length then L.set d (L.getD d 0 + 1) else L ++ [1]
theorem bump_cons (x : Int) (L : List Int) (d : Nat) : bump (x :: L) (d + 1) = x :: bump L d := by
  unfold bump
  by_cases h : d < L.length
  · rw [if_pos h, if_pos (by rw [List.length_cons]; omega)]
    rfl
  · rw [if_neg h, if_neg (by rw [List.length_cons]; omega)]
    rfl
theorem Near.sizes {s b : List (List Int)} (h : Near s b) : ∃ d, d ≤ s.length ∧ b.map (fun r => (r.length : Int)) = bump (s.map fun r => (r.length : Int)) d := by
  induction h with
  | new m => exact ⟨0, Nat.le_refl _, rfl⟩
  | @here s b hb rest =>
    refine ⟨0, Nat.zero_le _, ?_⟩
    have hl := hb.len
    show ((b.length : Int) :: rest.map fun r => (r.length : Int)) = ((s.length : Int) + 1) :: rest.map fun r => (r.length : Int)
    rw [hl]
    rfl
  | @skip s b ss bs hs r ih =>
    obtain ⟨d, hd, e⟩ := ih
    refine ⟨d + 1, by rw [List.length_cons]; omega, ?_⟩
    rw [List.map_cons, List.map_cons, bump_cons, e, hs.len]
theorem bump_length (L : List Int) {d : Nat} : (bump L d).length = if d < L.length then L.length else L.length + 1 := by
  unfold bump
  split
  · rw [List.length_set]
  · rw [List.length_append]
    rfl
theorem bump_at (L : List Int) {d k : Nat} (hd : d ≤ L.length) (hk : k < (bump L d).length) : (bump L d)[k]? = some (L.getD k 0 + if k = d then 1 else 0) := by
  rw [bump_length] at hk
  unfold bump
  by_cases h : d < L.length
  · rw [if_pos h] at hk ⊢
    by_cases e : k = d
    · subst e
      rw [List.getElem?_set_self hk, if_pos rfl]
    · rw [List.getElem?_set_ne (fun z => e z.symm), if_neg e, Int.add_zero, List.getElem?_eq_getElem hk, List.getD_eq_getElem?_getD, List.getElem?_eq_getElem hk]
      rfl
  · rw [if_neg h] at hk ⊢
    have hd' : d = L.length := by omega
    subst hd'
    by_cases e : k = L.length
    · subst e
      rw [List.getElem?_append_right (Nat.le_refl _), Nat.sub_self, if_pos rfl, List.getD_eq_getElem?_getD, List.getElem?_eq_none (Nat.le_refl _)]
      rfl
    · have hk' : k < L.length := by omega
      rw [List.getElem?_append_left hk', if_neg e, Int.add_zero, List.getElem?_eq_getElem hk', List.getD_eq_getElem?_getD, List.getElem?_eq_getElem hk']
      rfl
end El
namespace El
/-! ### somebody comes: from room to room -/
/-- who is kept in a room with n inside, of those who come one after another -/
def g0 : Nat → List (Int × Int) → List (Int × Int)
  | _, [] => []
  | n, g :: L => if (n : Int) ≤ g.2 then g :: g0 (n + 1) L else g0 n L
/-- who goes on -/
def r0 : Nat → List (Int × Int) → List (Int × Int)
  | _, [] => []
  | n, g :: L => if (n : Int) ≤ g.2 then r0 (n + 1) L else g :: r0 n L
theorem g0_yes {n : Nat} {g : Int × Int} {L : List (Int × Int)} (h : (n : Int) ≤ g.2) : g0 n (g :: L) = g :: g0 (n + 1) L := if_pos h
theorem g0_no {n : Nat} {g : Int × Int} {L : List (Int × Int)} (h : ¬ (n : Int) ≤ g.2) : g0 n (g :: L) = g0 n L := if_neg h
theorem r0_yes {n : Nat} {g : Int × Int} {L : List (Int × Int)} (h : (n : Int) ≤ g.2) : r0 n (g :: L) = r0 (n + 1) L := if_pos h
theorem r0_no {n : Nat} {g : Int × Int} {L : List (Int × Int)} (h : ¬ (n : Int) ≤ g.2) : r0 n (g :: L) = g :: r0 n L := if_neg h
theorem fold_first : ∀ (L : List (Int × Int)) (r : List Int) (rs : List (List Int)), L.foldl (fun rs g => place rs g.1 g.2) (r :: rs) = (r ++ (g0 r.length L).map (·.1)) :: (r0 r.length L).foldl (fun rs g => place rs g.1 g.2) rs
  | [], r, rs => by
    show r :: rs = (r ++ []) :: rs
    rw [List.append_nil]
  | g :: L, r, rs => by
    rw [List.foldl_cons]
    by_cases h : (r.length : Int) ≤ g.2
    · have e : place (r :: rs) g.1 g.2 = (r ++ [g.1]) :: rs := by
        unfold place
        rw [if_pos h]
      rw [e, fold_first L, List.length_append, List.length_singleton]
      rw [g0_yes h, r0_yes h, List.map_cons, List.append_assoc]
      rfl
    · have e : place (r :: rs) g.1 g.2 = r :: place rs g.1 g.2 := by
        unfold place
        rw [if_neg h]
        cases rs <;> rfl
      rw [e, fold_first L]
      rw [g0_no h, r0_no h, List.foldl_cons]
/-- the first room, and the rooms of those who go on -/
theorem settle_first {L : List (Int × Int)} (hn : L ≠ []) (hp : ∀ g ∈ L, 0 ≤ g.2) : settleL L = (g0 0 L).map (·.1) :: settleL (r0 0 L) := by
  cases L with
  | nil => exact absurd rfl hn
  | cons g L =>
    have h0 : ((0 : Nat) : Int) ≤ g.2 := hp g (.head _)
    have e := fold_first L [g.1] []
    unfold settleL
    rw [List.foldl_cons]
    show L.foldl _ [[g.1]] = _
    rw [e, g0_yes h0, r0_yes h0]
    rfl
theorem g0_app : ∀ (A B : List (Int × Int)) (n : Nat), g0 n (A ++ B) = g0 n A ++ g0 (n + (g0 n A).length) B
  | [], B, n => rfl
  | g :: A, B, n => by
    rw [List.cons_append]
    by_cases h : (n : Int) ≤ g.2
    · rw [g0_yes h, g0_yes h, g0_app A B (n + 1), List.cons_append, List.length_cons, Nat.add_assoc, Nat.add_comm 1]
    · rw [g0_no h, g0_no h, g0_app A B n]
theorem r0_app : ∀ (A B : List (Int × Int)) (n : Nat), r0 n (A ++ B) = r0 n A ++ r0 (n + (g0 n A).length) B
  | [], B, n => rfl
  | g :: A, B, n => by
    rw [List.cons_append]
    by_cases h : (n : Int) ≤ g.2
    · rw [r0_yes h, r0_yes h, g0_yes h, r0_app A B (n + 1), List.length_cons, Nat.add_assoc, Nat.add_comm 1]
    · rw [r0_no h, r0_no h, g0_no h, r0_app A B n, List.cons_append]
/-- one more inside: nobody gives way, or one does, and all is as before from there on -/
theorem one_gives : ∀ (L : List (Int × Int)) (n : Nat), (g0 (n + 1) L = g0 n L ∧ r0 (n + 1) L = r0 n L ∧ ∀ i g, (g0 n L)[i]? = some g → ((n + 1 + i : Nat) : Int) ≤ g.2) ∨
    ∃ L1 y L2, L = L1 ++ y :: L2 ∧ g0 (n + 1) L1 = g0 n L1 ∧ r0 (n + 1) L1 = r0 n L1 ∧ (∀ i g, (g0 n L1)[i]? = some g → ((n + 1 + i : Nat) : Int) ≤ g.2) ∧ y.2 = ((n + (g0 n L1).length : Nat) : Int)
  | [], n => .inl ⟨rfl, rfl, fun i g e => by cases e⟩
  | g :: L, n => by
    by_cases h : (n : Int) ≤ g.2
    · by_cases h1 : ((n + 1 : Nat) : Int) ≤ g.2
      · rcases one_gives L (n + 1) with ⟨a, b, c⟩ | ⟨L1, y, L2, rfl, a, b, c, d⟩
        · refine .inl ⟨?_, ?_, fun i x e => ?_⟩
          · rw [g0_yes h, g0_yes h1, a]
          · rw [r0_yes h, r0_yes h1, b]
          · rw [g0_yes h] at e
            cases i with
            | zero => cases e; exact h1
            | succ i =>
              have := c i x e
              omega
        · refine .inr ⟨g :: L1, y, L2, rfl, ?_, ?_, fun i x e => ?_, ?_⟩
          · rw [g0_yes h, g0_yes h1, a]
          · rw [r0_yes h, r0_yes h1, b]
          · rw [g0_yes h] at e
            cases i with
            | zero => cases e; exact h1
            | succ i =>
              have := c i x e
              omega
          · rw [g0_yes h, List.length_cons, d]
            omega
      · exact .inr ⟨[], g, L, rfl, rfl, rfl, (fun i x e => by cases e), by show g.2 = ((n + 0 : Nat) : Int); omega⟩
    · have h1 : ¬ ((n + 1 : Nat) : Int) ≤ g.2 := by omega
      rcases one_gives L n with ⟨a, b, c⟩ | ⟨L1, y, L2, rfl, a, b, c, d⟩
      · refine .inl ⟨?_, ?_, fun i x e => ?_⟩
        · rw [g0_no h, g0_no h1, a]
        · rw [r0_no h, r0_no h1, b]
        · rw [g0_no h] at e
          exact c i x e
      · refine .inr ⟨g :: L1, y, L2, rfl, ?_, ?_, fun i x e => ?_, ?_⟩
        · rw [g0_no h, g0_no h1, a]
        · rw [r0_no h, r0_no h1, b]
        · rw [g0_no h] at e
          exact c i x e
        · rw [g0_no h]
          exact d
theorem g0_fine : ∀ (L : List (Int × Int)) (n i : Nat) (g : Int × Int), (g0 n L)[i]? = some g → ((n + i : Nat) : Int) ≤ g.2
  | [], _, _, _, e => by cases e
  | x :: L, n, i, g, e => by
    by_cases h : (n : Int) ≤ x.2
    · rw [g0_yes h] at e
      cases i with
      | zero => cases e; exact h
      | succ i =>
        have := g0_fine L (n + 1) i g e
        omega
    · rw [g0_no h] at e
      exact g0_fine L n i g e
theorem g0_sub : ∀ (L : List (Int × Int)) (n : Nat), (g0 n L).Sublist L
  | [], _ => .slnil
  | x :: L, n => by
    by_cases h : (n : Int) ≤ x.2
    · rw [g0_yes h]
      exact (g0_sub L (n + 1)).cons₂ x
    · rw [g0_no h]
      exact (g0_sub L n).cons x
theorem r0_sub : ∀ (L : List (Int × Int)) (n : Nat), (r0 n L).Sublist L
  | [], _ => .slnil
  | x :: L, n => by
    by_cases h : (n : Int) ≤ x.2
    · rw [r0_yes h]
      exact (r0_sub L (n + 1)).cons x
    · rw [r0_no h]
      exact (r0_sub L n).cons₂ x
/-- x comes among those of L, at its age's place -/
def Comes (x : Int × Int) (L L' : List (Int × Int)) : Prop := ∃ pre post, L = pre ++ post ∧ L' = pre ++ x :: post
/-- a room that x enters: either all bear it, and it is the room; or the first who does not is y, who goes on -/
theorem enters {x : Int × Int} {L L' : List (Int × Int)} (h : Comes x L L') (down' : L'.Pairwise fun g h => h.1 < g.1) :
    ∃ E : List (Int × Int), E.Perm (x :: g0 0 L) ∧ E.Pairwise (fun g h => h.1 < g.1) ∧
      (((∀ (j : Nat) (g : Int × Int), E[j]? = some g → (j : Int) ≤ g.2) ∧ g0 0 L' = E ∧ r0 0 L' = r0 0 L) ∨
        ∃ (i : Nat) (y : Int × Int), E[i]? = some y ∧ (∀ (j : Nat) (g : Int × Int), j < i → E[j]? = some g → (j : Int) ≤ g.2) ∧ y.2 < (i : Int) ∧ g0 0 L' = E.eraseIdx i ∧ Comes y (r0 0 L) (r0 0 L')) := by
  obtain ⟨pre, post, rfl, rfl⟩ := h
  have eg := g0_app pre post 0
  have er := r0_app pre post 0
  have eg' := g0_app pre (x :: post) 0
  have er' := r0_app pre (x :: post) 0
  rw [Nat.zero_add] at eg er eg' er'
  generalize hA : g0 0 pre = A at eg er eg' er'
  have fineA : ∀ (j : Nat) (g : Int × Int), A[j]? = some g → (j : Int) ≤ g.2 := fun j g e => by
    rw [← hA] at e
    have := g0_fine pre 0 j g e
    omega
  have subA : A.Sublist pre := hA ▸ g0_sub pre 0
  refine ⟨A ++ x :: g0 A.length post, ?_, down'.sublist (subA.append ((g0_sub post A.length).cons₂ x)), ?_⟩
  · rw [eg]
    exact List.perm_middle
  · by_cases hx : (A.length : Int) ≤ x.2
    · rw [eg', er', g0_yes hx, r0_yes hx, er]
      rcases one_gives post A.length with ⟨a, b, c⟩ | ⟨L1, y, L2, rfl, a, b, c, d⟩
      · refine .inl ⟨fun j g e => ?_, by rw [a], by rw [b]⟩
        by_cases hj : j < A.length
        · rw [List.getElem?_append_left hj] at e
          exact fineA j g e
        · rw [List.getElem?_append_right (by omega)] at e
          cases hd : j - A.length with
          | zero =>
            rw [hd] at e
            cases e
            omega
          | succ k =>
            rw [hd] at e
            have := c k g e
            omega
      · have d1 : ((A.length + (g0 A.length L1).length : Nat) : Int) ≤ y.2 := by omega
        have d2 : ¬ ((A.length + 1 + (g0 (A.length + 1) L1).length : Nat) : Int) ≤ y.2 := by rw [a]; omega
        have eold : g0 A.length (L1 ++ y :: L2) = g0 A.length L1 ++ y :: g0 (A.length + (g0 A.length L1).length + 1) L2 := by rw [g0_app, g0_yes d1]
        have enew : g0 (A.length + 1) (L1 ++ y :: L2) = g0 A.length L1 ++ g0 (A.length + (g0 A.length L1).length + 1) L2 := by
          rw [g0_app, g0_no d2, a]
          congr 2
          omega
        have rold : r0 A.length (L1 ++ y :: L2) = r0 A.length L1 ++ r0 (A.length + (g0 A.length L1).length + 1) L2 := by rw [r0_app, r0_yes d1]
        have rnew : r0 (A.length + 1) (L1 ++ y :: L2) = r0 A.length L1 ++ y :: r0 (A.length + (g0 A.length L1).length + 1) L2 := by
          rw [r0_app, r0_no d2, a, b]
          congr 3
          omega
        rw [eold, enew, rold, rnew]
        refine .inr ⟨A.length + 1 + (g0 A.length L1).length, y, ?_, fun j g hj e => ?_, by omega, ?_, r0 0 pre ++ r0 A.length L1, r0 (A.length + (g0 A.length L1).length + 1) L2, by rw [List.append_assoc], by rw [List.append_assoc]⟩
        · rw [List.getElem?_append_right (by omega), show A.length + 1 + (g0 A.length L1).length - A.length = (g0 A.length L1).length + 1 by omega, List.getElem?_cons_succ, List.getElem?_append_right (Nat.le_refl _), Nat.sub_self]
          rfl
        · by_cases h1 : j < A.length
          · rw [List.getElem?_append_left h1] at e
            exact fineA j g e
          · rw [List.getElem?_append_right (by omega)] at e
            cases hd : j - A.length with
            | zero =>
              rw [hd] at e
              cases e
              omega
            | succ k =>
              rw [hd, List.getElem?_cons_succ, List.getElem?_append_left (by omega)] at e
              have := c k g e
              omega
        · rw [List.eraseIdx_append_of_length_le (by omega), show A.length + 1 + (g0 A.length L1).length - A.length = (g0 A.length L1).length + 1 by omega, List.eraseIdx_cons_succ, List.eraseIdx_append_of_length_le (Nat.le_refl _), Nat.sub_self]
          rfl
    · rw [eg', er', g0_no hx, r0_no hx, er]
      refine .inr ⟨A.length, x, ?_, fun j g hj e => ?_, by omega, ?_, r0 0 pre, r0 A.length post, rfl, rfl⟩
      · rw [List.getElem?_append_right (Nat.le_refl _), Nat.sub_self]
        rfl
      · rw [List.getElem?_append_left hj] at e
        exact fineA j g e
      · rw [List.eraseIdx_append_of_length_le (Nat.le_refl _), Nat.sub_self]
        rfl
theorem map_erase0' {α β : Type} (f : α → β) : ∀ (l : List α) (k : Nat), (l.map f).eraseIdx k = (l.eraseIdx k).map f
  | [], _ => rfl
  | _ :: _, 0 => rfl
  | a :: l, k + 1 => by
    rw [List.map_cons, List.eraseIdx_cons_succ, List.eraseIdx_cons_succ, List.map_cons, map_erase0' f l k]
/-- who is in the first room -/
def roomOf (L : List (Int × Int)) : List Int := (g0 0 L).map (·.1)
theorem settle_parts {L : List (Int × Int)} (hp : ∀ g ∈ L, 0 ≤ g.2) : settleL L = if L = [] then [] else roomOf L :: settleL (r0 0 L) := by
  by_cases h : L = []
  · rw [if_pos h, h]
    rfl
  · rw [if_neg h]
    exact settle_first h hp
theorem erase_at : ∀ {l : List Int} {i : Nat} {a : Int}, l.Nodup → l[i]? = some a → l.erase a = l.eraseIdx i
  | x :: l, 0, a, _, e => by
    obtain rfl : x = a := Option.some.inj e
    rw [List.erase_cons_head]
    rfl
  | x :: l, i + 1, a, nd, e => by
    rw [List.nodup_cons] at nd
    have m : a ∈ l := List.mem_of_getElem? (i := i) (by simpa using e)
    have ne : x ≠ a := fun z => nd.1 (z ▸ m)
    rw [List.erase_cons_tail (by simpa using ne), List.eraseIdx_cons_succ, erase_at nd.2 (by simpa using e)]
/-- somebody enters the first room of those of L -/
theorem come_step {gs : List (Int × Int)} (F : Fit gs) {x : Int × Int} {L L' : List (Int × Int)} (h : Comes x L L') (sub : L'.Sublist (byAge gs)) :
    ∃ E : List Int, E.Perm (x.1 :: roomOf L) ∧ E.Pairwise (· > ·) ∧
      ((eldUp gs E = none ∧ settleL L' = E :: settleL (r0 0 L)) ∨ ∃ y, y ∈ L' ∧ y.1 ∈ E ∧ eldUp gs E = some y.1 ∧ settleL L' = E.erase y.1 :: settleL (r0 0 L') ∧ Comes y (r0 0 L) (r0 0 L')) := by
  have desc : (byAge gs).Pairwise fun g h => h.1 < g.1 := by
    have h1 := byAge_sorted gs
    have h2 : (byAge gs).Pairwise fun g h => g.1 ≠ h.1 := by
      have := ((byAge_perm gs).map (·.1)).nodup_iff.mpr F.nd
      rw [List.Nodup, List.pairwise_map] at this
      exact this
    exact (h1.and h2).imp fun h => by omega
  have mem : ∀ g ∈ L', g ∈ gs := fun g m => (byAge_perm gs).mem_iff.mp (sub.subset m)
  have ne : L' ≠ [] := by
    obtain ⟨pre, post, _, rfl⟩ := h
    simp
  have first := settle_first ne fun g m => F.pos g (mem g m)
  have subL : L.Sublist L' := by
    obtain ⟨pre, post, rfl, rfl⟩ := h
    exact (List.Sublist.refl pre).append (List.sublist_cons_self x post)
  have xm : x ∈ L' := by
    obtain ⟨pre, post, _, rfl⟩ := h
    simp
  obtain ⟨E, pE, dE, out⟩ := enters h (desc.sublist sub)
  have inL : ∀ g ∈ E, g ∈ L' := fun g m => by
    rcases List.mem_cons.mp (pE.mem_iff.mp m) with rfl | m
    · exact xm
    · exact subL.subset ((g0_sub L 0).subset m)
  have dE' : (E.map (·.1)).Pairwise (· > ·) := by
    rw [List.pairwise_map]
    exact dE.imp fun h => h
  have nd : (E.map (·.1)).Nodup := dE'.imp fun h => by omega
  have isDown : down (E.map (·.1)) = E.map (·.1) := (down_is (.refl _) (dE'.imp fun h => by omega)).symm
  have pofE : ∀ g ∈ E, pof gs g.1 = g.2 := fun g m => pof_is F.nd (mem g (inL g m))
  refine ⟨E.map (·.1), pE.map _, dE', ?_⟩
  rcases out with ⟨fine, e1, e2⟩ | ⟨i, y, ey, fine, bad, e1, e2⟩
  · refine .inl ⟨?_, by rw [first, e1, e2]⟩
    unfold eldUp
    rw [isDown]
    refine upIn_none fun j a e => ?_
    rw [List.getElem?_map] at e
    obtain ⟨g, eg, rfl⟩ := Option.map_eq_some_iff.mp e
    rw [pofE g (List.mem_of_getElem? eg)]
    exact fine j g eg
  · have ym := List.mem_of_getElem? ey
    refine .inr ⟨y, inL y ym, List.mem_map_of_mem ym, ?_, ?_, e2⟩
    · unfold eldUp
      rw [isDown]
      refine upIn_at (i := i) (by rw [List.getElem?_map, ey]; rfl) (fun j a hj e => ?_) (by rw [pofE y ym]; omega)
      rw [List.getElem?_map] at e
      obtain ⟨g, eg, rfl⟩ := Option.map_eq_some_iff.mp e
      rw [pofE g (List.mem_of_getElem? eg)]
      exact fine j g hj eg
    · rw [first, e1, erase_at nd (by rw [List.getElem?_map, ey]; rfl)]
      congr 1
      exact (map_erase0' (·.1) E i).symm
end El
namespace El
/-- a crowd comes to a first room in which h live -/
def kst (h : Int) (c : Int × Int) : Int := if c.2 + 1 ≤ h then h else if h + c.1 ≤ c.2 + 1 then h + c.1 else c.2 + 1
def stay (cs : List (Int × Int)) (n : Int) : Int := cs.foldl kst n
def Crw (cs : List (Int × Int)) : Prop := ∀ c ∈ cs, 1 ≤ c.1 ∧ 0 ≤ c.2
theorem stay_snoc (cs : List (Int × Int)) (c : Int × Int) (n : Int) : stay (cs ++ [c]) n = kst (stay cs n) c := by
  unfold stay
  rw [List.foldl_append]
  rfl
theorem stay_cat (cs ds : List (Int × Int)) (n : Int) : stay (cs ++ ds) n = stay ds (stay cs n) := by
  unfold stay
  rw [List.foldl_append]
theorem stay_cons (c : Int × Int) (cs : List (Int × Int)) (n : Int) : stay (c :: cs) n = stay cs (kst n c) := rfl
theorem kst_ge (h : Int) (c : Int × Int) (k : 1 ≤ c.1) : h ≤ kst h c := by
  unfold kst
  split
  · omega
  · split <;> omega
/-- one elder more: as many, or one more -/
theorem kst_one (h h' : Int) (c : Int × Int) (k : 1 ≤ c.1) (d : h' = h ∨ h' = h + 1) : kst h' c = kst h c ∨ kst h' c = kst h c + 1 := by
  unfold kst
  split <;> split <;> (try split) <;> (try split) <;> omega
theorem Crw.cons {c : Int × Int} {cs : List (Int × Int)} (h : Crw (c :: cs)) : (1 ≤ c.1 ∧ 0 ≤ c.2) ∧ Crw cs := ⟨h c List.mem_cons_self, fun d m => h d (List.mem_cons_of_mem _ m)⟩
theorem Crw.cat {cs ds : List (Int × Int)} (h : Crw cs) (k : Crw ds) : Crw (cs ++ ds) := fun c m => (List.mem_append.mp m).elim (h c) (k c)
theorem stay_ge : ∀ {cs : List (Int × Int)}, Crw cs → ∀ n, n ≤ stay cs n
  | [], _, n => Int.le_refl _
  | c :: cs, h, n => by
    rw [stay_cons]
    exact Int.le_trans (kst_ge n c h.cons.1.1) (stay_ge h.cons.2 _)
theorem stay_one : ∀ {cs : List (Int × Int)}, Crw cs → ∀ n n', (n' = n ∨ n' = n + 1) → stay cs n' = stay cs n ∨ stay cs n' = stay cs n + 1
  | [], _, n, n', d => d
  | c :: cs, h, n, n', d => by
    rw [stay_cons, stay_cons]
    exact stay_one h.cons.2 _ _ (kst_one n n' c h.cons.1.1 d)
/-- a crowd parted in two -/
theorem kst_part (h : Int) (a b p : Int) (ha : 1 ≤ a) (hb : 1 ≤ b) : kst (kst h (a, p)) (b, p) = kst h (a + b, p) := by
  unfold kst
  dsimp only
  split <;> (try split) <;> (try split) <;> (try split) <;> (try split) <;> omega
end El
namespace El
theorem stay_lt {M : Int} : ∀ {cs : List (Int × Int)}, (∀ c ∈ cs, c.2 + 1 < M) → ∀ n, n < M → stay cs n < M
  | [], _, n, h => h
  | c :: cs, k, n, h => by
    rw [stay_cons]
    refine stay_lt (fun d m => k d (List.mem_cons_of_mem _ m)) _ ?_
    have := k c List.mem_cons_self
    unfold kst
    split
    · omega
    · split <;> omega
theorem kst_0 (h p : Int) : kst h (0, p) = h := by
  unfold kst
  dsimp only
  split
  · rfl
  · split <;> omega
theorem kst_succ (h p : Int) (k : Nat) : kst h (((k + 1 : Nat) : Int), p) = kst h ((k : Int), p) + (if decide (kst h ((k : Int), p) ≤ p) = true then 1 else 0) := by
  by_cases e : kst h ((k : Int), p) ≤ p
  · rw [decide_eq_true e, if_pos rfl]
    unfold kst at e ⊢
    dsimp only at e ⊢
    split <;> (try split) <;> (try split) <;> (try split) <;> (split at e) <;> (try split at e) <;> omega
  · rw [decide_eq_false e, if_neg (by decide), Int.add_zero]
    unfold kst at e ⊢
    dsimp only at e ⊢
    split <;> (try split) <;> (try split) <;> (try split) <;> (split at e) <;> (try split at e) <;> omega
end El
namespace El
open PySem PySem.Spec PyProof.Rows L2
/-! ### a def of the text as callers see it -/
structure Df (P : Program) (w : World) (K : PySem.W.Frag) (mg : Str → Option Value) (base : Heap) (k : Nat) (x : Str) (ps : List Str) (st : Stmt) (sp : Sp) : Prop where
  ex : ∃ (f : Addr) (fd : FuncData), Fun K x x st f fd ∧ mg x = some (.ref f) ∧ FnOk P w K mg base CX0 k f fd ps sp ∧ Binds K fd ps []
/-- where a def stands -/
structure At (K : PySem.W.Frag) (mg : Str → Option Value) (x : Str) (ps : List Str) (st : Stmt) : Prop where
  ex : ∃ (f : Addr) (fd : FuncData), Fun K x x st f fd ∧ mg x = some (.ref f) ∧ Binds K fd ps []
theorem At.df {P : Program} {w : World} {K : PySem.W.Frag} {mg : Str → Option Value} {base : Heap} {k : Nat} {x : Str} {ps : List Str} {st : Stmt} {sp : Sp} (A : At K mg x ps st)
    (h : ∀ f fd, Fun K x x st f fd → FnOk P w K mg base CX0 k f fd ps sp) : Df P w K mg base k x ps st sp := by
  obtain ⟨f, fd, F, m, b⟩ := A.ex
  exact ⟨f, fd, F, m, h f fd F, b⟩
section
variable {X : Cx} {k : Nat} {x : Str} {ps : List Str} {st : Stmt} {sp : Sp} {p pos : Pos} {e : Expr} {es : List Expr} {kws : List Keyword} {t tk : TA}
theorem pe_df (D : Df X.prog X.w X.K X.mg X.base k x ps st sp) (hr : Room k X.A) (hg : Gl X x) (ha : PA X (e :: es) t) (hdb : (x == ("__debug__" : Str)) = false := by decide)
    (he : starEach (e :: es) X.env = (false, eval e X.env) :: starEach es X.env := by rfl) (hpl : (backTo pos (starEach es X.env)).any (·.1) = false := by rfl) : PE X (.Call (.Name x p) (e :: es) [] pos) (tCall sp [] E0 t) := by
  obtain ⟨f, fd, F, m, G, b⟩ := D.ex
  exact pe_call G hr hg m F.kp b .nil pass0 ha hdb he hpl
theorem pe_df0 (D : Df X.prog X.w X.K X.mg X.base k x ps st sp) (hr : Room k X.A) (hg : Gl X x) (hdb : (x == ("__debug__" : Str)) = false := by decide) : PE X (.Call (.Name x p) [] [] pos) (tCall sp [] E0 tNil) := by
  obtain ⟨f, fd, F, m, G, b⟩ := D.ex
  exact pe_call0 G hr hg m F.kp b .nil pass0 hdb
def tCallW (n : Nat) (sp : Sp) (g : List V → List V) (tk : TA) : TE := fun σ H Q => tk σ H fun zs H2 => zs.length = n ∧ sp (g zs) H2 Q E0
/-- f(k = v, ..): keywords alone -/
theorem pe_dfK (D : Df X.prog X.w X.K X.mg X.base k x ps st sp) (ks : List Str) (g : {α : Type} → List α → List α) (hr : Room k X.A) (hg : Gl X x) (hkw : PK X kws tk)
    (hb : ∀ (kV doc pm : Value) (an : Option Addr) (cdv ct : Value) (ws : List Value), ws.length = ks.length → bindArgs (PySem.W.fnOf x x (defArgs st) (defBody st) (defScope st) .none kV doc pm an cdv ct) ⟨[], ks.zip ws⟩ = pure (ps.zip (g ws)))
    (hrel : ∀ {zs : List V} {ws : List Value}, Vals zs ws → Vals (g zs) (g ws))
    (hall : (backToKw pos (keywordEach kws X.env)).all (·.1.isSome) = true := by rfl) (hks : (backToKw pos (keywordEach kws X.env)).filterMap (·.1) = ks := by rfl) (hdb : (x == ("__debug__" : Str)) = false := by decide)
    (hpl : ((backTo pos (starEach [] X.env)).any (·.1) || (backToKw pos (keywordEach kws X.env)).any (·.1.isNone)) = false := by rfl) :
    PE X (.Call (.Name x p) [] kws pos) (tCallW ks.length sp (fun zs => g zs) tk) := by
  obtain ⟨f, fd, F, m, G, b⟩ := D.ex
  have kp := F.kp
  have KB : KBn X.K fd ps 0 ks (fun us ws => us ++ g ws) (fun vs zs => vs ++ g zs) := by
    obtain ⟨oc, od, kV, doc, pm, an, cdv, ct, osl, rfl, lk, hcd⟩ := F.ex
    refine ⟨fun s us ws hK l1 l2 => ?_, fun {vs us zs ws} r rz => Vals.append r (hrel rz)⟩
    obtain rfl := List.eq_nil_of_length_eq_zero l1
    exact .of_eq (hb kV doc pm an cdv ct ws l2)
  refine ⟨fun pins s σ H Q I h => ?_⟩
  refine wpAny_Call_Name_kw (ld_glob I hg m ?_ hdb)
  refine PySem.W.callWith_KW0 (h₀ := X.base) I.ok.mod.kin kp hall ?_ hpl
  refine thn (hkw.run pos pins s σ H _ I h) fun ws s2 ⟨zs, H2, I2, rz, l2, q2⟩ => ⟨I2.kIn, ?_⟩
  rw [hks]
  exact run_fnN (us := []) (vs := []) G hr KB pass0 I2 .nil rz rfl l2 q2
end
theorem Df.at {P : Program} {w : World} {K : PySem.W.Frag} {mg : Str → Option Value} {base : Heap} {k : Nat} {x : Str} {ps : List Str} {st : Stmt} {sp : Sp} {fa : Addr} {fd : FuncData} {oc : Value} {od : Option Addr} {sl : Array (Option Value)}
    (D : Df P w K mg base k x ps st sp) (hf : mg x = some (.ref fa)) (l : K.lookup fa = some ⟨oc, od, .func fd, sl⟩) : FnOk P w K mg base CX0 k fa fd ps sp := by
  obtain ⟨f, fd', F, m, G, b⟩ := D.ex
  obtain rfl : fa = f := by
    have e := hf.symm.trans m
    injection e with e
    injection e
  obtain ⟨oc', od', kV, doc, pm, an, cdv, ct, osl, e1, lk, hcd⟩ := F.ex
  have e := l.symm.trans lk
  injection e with e
  injection e with _ _ e _
  injection e with e
  rw [e]
  exact G
theorem At.mk' {K : PySem.W.Frag} {mg : Str → Option Value} {h : Heap} {x : Str} {ps : List Str} {st : Stmt} {f : Addr} {oc : Value} {od an : Option Addr} {osl : Array (Option Value)} {kV doc pm cdv ct : Value} (X : K.In h) (G : h.Ns mainGlobals mg)
    (a : PySem.W.nsIn K mainGlobals x = some (some (.ref f))) (l : K.lookup f = some ⟨oc, od, .func (PySem.W.fnOf x x (defArgs st) (defBody st) (defScope st) .none kV doc pm an cdv ct), osl⟩)
    (c : PySem.W.codeIn K cdv x = true) (k : PySem.W.keepIn K (.ref f) = true)
    (b : ∀ (kV doc pm : Value) (an : Option Addr) (cdv ct : Value) (us : List Value), us.length = ps.length → bindArgs (PySem.W.fnOf x x (defArgs st) (defBody st) (defScope st) .none kV doc pm an cdv ct) ⟨us, []⟩ = pure (ps.zip us)) : At K mg x ps st :=
  have F := fun_mk (st := st) l c k
  ⟨f, _, F, PySem.W.mg_of X G a, F.binds b⟩
end El
namespace El
open PySem PySem.Spec PyProof.Rows L2
section
variable {X : Cx}
/-! sorted(..., reverse=b) of anything whose walk is known -/
/-- partners: each pair is something of ours and the value that stands for it -/
abbrev Partners (P : List (V × Value)) : Prop := ∀ p ∈ P, RelV p.1 p.2
theorem partners_of : ∀ {xs : List V} {us : List Value}, Vals xs us → ∃ P, Partners P ∧ P.map Prod.fst = xs ∧ P.map Prod.snd = us
  | _, _, .nil => ⟨[], fun _ m => (List.not_mem_nil m).elim, rfl, rfl⟩
  | _, _, .cons h t =>
    let ⟨P, hP, e1, e2⟩ := partners_of t
    ⟨(_, _) :: P, fun p m => (List.mem_cons.mp m).elim (fun e => e ▸ h) (hP p), congrArg _ e1, congrArg _ e2⟩
theorem Partners.vals : ∀ {P : List (V × Value)}, Partners P → Vals (P.map Prod.fst) (P.map Prod.snd)
  | [], _ => .nil
  | _ :: _, h => .cons (h _ (.head _)) (Partners.vals fun p m => h p (.tail _ m))
/-- the values in another order: the partners go along -/
theorem go_along {α β : Type} {f : α → β} {ys : List β} : ∀ {P : List α}, ys.Perm (P.map f) → ∃ P' : List α, P'.Perm P ∧ P'.map f = ys := by
  suffices key : ∀ {as bs : List β}, as.Perm bs → ∀ P : List α, P.map f = as → ∃ P' : List α, P'.Perm P ∧ P'.map f = bs from
    fun {P} h => key h.symm P rfl
  intro as bs h
  induction h with
  | nil => exact fun P e => ⟨P, .refl _, e⟩
  | cons x _ ih =>
    intro P e
    match P, e with
    | q :: P, e =>
      obtain ⟨P', hp, e'⟩ := ih P (List.cons.inj e).2
      exact ⟨q :: P', hp.cons q, by rw [List.map_cons, e', (List.cons.inj e).1]⟩
  | swap x y l =>
    intro P e
    match P, e with
    | q :: r :: P, e => exact ⟨r :: q :: P, .swap .., by
        have e1 := List.cons.inj e
        have e2 := List.cons.inj e1.2
        rw [List.map_cons, List.map_cons, e1.1, e2.1, e2.2]⟩
  | trans _ _ ih1 ih2 =>
    intro P e
    obtain ⟨P1, h1, e1⟩ := ih1 P e
    obtain ⟨P2, h2, e2⟩ := ih2 P1 e1
    exact ⟨P2, h2.trans h1, e2⟩
/-- forwards or backwards -/
abbrev turn {α : Type} (b : Bool) (l : List α) : List α := if b = true then l.reverse else l
theorem turn_map {α β : Type} (f : α → β) (l : List α) : ∀ b, (turn b l).map f = turn b (l.map f)
  | true => List.map_reverse ..
  | false => rfl
theorem turn_perm {α : Type} (l : List α) : ∀ b, (turn b l).Perm l
  | true => l.reverse_perm
  | false => .refl _
theorem turn_arr {α : Type} (l : List α) : ∀ b : Bool, (if b = true then l.toArray.reverse else l.toArray) = (turn b l).toArray
  | true => List.reverse_toArray ..
  | false => rfl
/-- the walk over v gathers what stands for xs, and nothing that lay there is touched -/
def Gathers (X : Cx) (s : Shared) (v : Value) (xs : List V) : Prop :=
  ∀ R : List Value → Shared → Prop, (∀ us h t, Vals xs us → (∀ b o, s.heap.get? b = some o → h.get? b = some o) → R us { s with heap := h, toks := t }) → wpAny (model X.prog X.w) X.A.in1 (collect v) R X.xe s
theorem sorted_gathered {pins : List (Addr × Obj)} {σ : L2.St} {H : Hp} {s : Shared} {Q : VK} {b : Bool} {v : Value} {xs : List V} {less : Value → Value → Bool}
    (I : Inv X pins σ H s) (few : xs.length ≤ sizeLine) (walk : Gathers X s v xs) (O : SrtO.Swo less)
    (able : ∀ (us : List Value) (s' : Shared) (l : Addr), 2 ≤ us.length → Vals xs us → Inv X pins σ (upd H l (.lst xs)) s' → H l = none → SrtO.SortableO X.prog X.w X.A.in1.in1 s' l us less)
    (q : ∀ (P : List (V × Value)) (l : Addr), Partners P → (P.map Prod.fst).Perm xs → SrtO.Srtd less (P.map Prod.snd) → H l = none → Q (.ref l) (upd H l (.lst (turn b (P.map Prod.fst))))) :
    wpAny (model X.prog X.w) X.A (call (.builtin "sorted") [v] [(Str.ofString "reverse", .bool b)]) (EP X pins σ Q) X.xe s := by
  refine call_function_entry_kw kind_sorted plain_sorted entry_sorted (args_sorted_rev v (.bool b)) ?_
  refine wpAny_bind (m := checkCount "sorted" 1 1 _) (wpAny_pure ?_)
  refine wpAny_bind (walk _ fun us h t for_xs grown => ?_)
  have n2 : us.length ≤ sizeLine := for_xs.length ▸ few
  refine wpAny_bind (wpAny_newList (wpAny_bind (wpAny_holding ?_)) n2)
  -- the new list lies there, and is ours
  generalize hl : ({ s with heap := h, toks := t } : Shared).heap.objs.size = l
  have hl' : h.objs.size = l := hl
  have at_l : (h.push (seqObj "list" us.toArray 0)).get? l = some (seqObj "list" us.toArray 0) := hl' ▸ Heap.get?_push_size _ rfl
  have free : H l = none := hl' ▸ (I.kept (t' := t) grown).hok.fresh (Nat.le_refl _)
  have J : Inv X pins σ (upd H l (.lst xs)) { s with heap := h.push (seqObj "list" us.toArray 0), toks := t } :=
    (I.kept (t' := t) grown).laid (t' := t) (fun _ _ => Heap.get?_push_of_some _) (Nat.le_of_eq hl) ⟨few, _, 0, for_xs, at_l⟩
  -- it is sorted where it lies
  refine PyProof.Rows.wpAny_call_entry_kw slot_list_sort ⟨_, at_l, rfl⟩ entry_list_sort ?_ (args_list_sort_rev _ (.bool b))
  refine SrtR.list_sort_ordR O at_l n2 (fun two => able us _ l two for_xs J free) fun out up same => ⟨_, rfl, wpAny_pure ⟨_, rfl, ?_⟩⟩
  obtain ⟨P0, hP0, rfl, rfl⟩ := partners_of for_xs
  obtain ⟨P, p1, rfl⟩ := go_along (same.perm.trans (turn_perm (P0.map Prod.snd) b))
  rw [turn_arr]
  obtain ⟨e, he⟩ := sortedHeap_at (out := (turn b (P.map Prod.snd)).toArray) at_l
  have hP : Partners P := fun p m => hP0 p (p1.mem_iff.mp m)
  have ends : Partners (turn b P) := fun p m => hP p ((turn_perm P b).mem_iff.mp m)
  have done := J.write (o := .lst (turn b (P.map Prod.fst))) (t' := t) (h' := sortedHeap (h.push (seqObj "list" (P0.map Prod.snd).toArray 0)) l (P0.map Prod.snd) (turn b (P.map Prod.snd)).toArray)
    (by rw [upd_same]; trivial) (.inl rfl) (fun c u away there => (sortedHeap_old away (Heap.lt_size there)).trans there) ⟨_, he⟩
    ⟨by rw [((turn_perm _ b).trans (p1.map _)).length_eq]; exact few, _, e, by rw [← turn_map, ← turn_map]; exact ends.vals, he⟩
  rw [upd_upd] at done
  exact ⟨.ref l, _, done, rfl, q P l hP (p1.map _) up free⟩
/-- the walk over a dict: its keys -/
theorem gathers_dict {pins : List (Addr × Obj)} {σ : L2.St} {H : Hp} {s : Shared} {a : Addr} {kvs : List (L2.Key × V)} (calm : X.calm = true) (I : Inv X pins σ H s) (d : Rd H a (.dK kvs)) :
    kvs.length ≤ sizeLine ∧ Gathers X s (.ref a) (kvs.map fun e => kV e.1) := by
  have ⟨few, own, es, same, lies⟩ := dk_rd I.hok d
  have ⟨ep, lies⟩ := lies.dictAt
  have keys : (kvs.map fun e => kV e.1) = es.map fun e => kV e.1 := by
    have h := congrArg (List.map kV) same.keys
    rw [List.map_map, List.map_map] at h
    exact h
  refine ⟨few, fun R go => ?_⟩
  rw [keys] at go
  exact PySem.W.kdu_collect (PySem.W.kdl_dict (knd := mixKind X.prog X.w) own) (I.ok.hd calm) lies (same.length ▸ few)
    fun h t got grown is => go _ h t (keys_at (by simpa using is.1) fun j v at_j => is.2 j v (by simpa using at_j)) grown
theorem ints_back {us : List Value} {ns : List Int} (h : IntsAre us ns) : us.map SrtO.iv = ns := by
  induction h with
  | nil => rfl
  | cons n t _ ih => exact congrArg (n :: ·) ih
/-- sorted(d, reverse=b) of a dict whose keys are ints -/
def rSortedRevD (b : Bool) : List V → List V → Hp → VK → Prop := fun vs zs H Q => ∃ (a : Addr) (kvs : List (L2.Key × V)) (ks : List Int), vs = [V.ref a] ∧ zs = [.bl b] ∧ Rd H a (.dK kvs) ∧ kvs.map (·.1) = ks.map Sum.inl ∧
  ∀ (ns' : List Int) (p : Addr), ns'.Perm ks → OrdB b ns' → H p = none → Q (.ref p) (upd H p (.lst (ns'.map V.int)))
theorem cr_sortedRevD {b : Bool} (calm : X.calm = true) : CallRK X (.builtin "sorted") [Str.ofString "reverse"] (rSortedRevD b) := by
  rintro pins s σ H _ _ us ws Q I one by_kw ⟨a, kvs, ks, rfl, rfl, d, hks, q⟩
  obtain ⟨v, w, rfl, rfl, rfl, rfl⟩ : ∃ v w, us = [v] ∧ ws = [w] ∧ v = .ref a ∧ w = .bool b := by
    cases one with | cons e1 t1 => cases t1; cases by_kw with | cons e2 t2 => cases t2; exact ⟨_, _, rfl, rfl, e1, e2⟩
  have keys : (kvs.map fun e => kV e.1) = ks.map V.int := by
    have h := congrArg (List.map kV) hks
    rw [List.map_map, List.map_map] at h
    exact h
  have ⟨few, walk⟩ := gathers_dict calm I d
  rw [keys] at walk
  refine sorted_gathered I (by rw [← keys, List.length_map]; exact few) walk SrtO.swo_int (fun us _ _ two r _ _ => SrtO.ints_sortable r.ints two) fun P l hP perm up free => ?_
  obtain ⟨ns, np, en⟩ := go_along perm
  have back := ints_back (Vals.ints (en ▸ hP.vals))
  rw [← en, ← turn_map]
  refine q _ l ((turn_perm ns b).trans np) ?_ free
  have rise : ns.Pairwise (· ≤ ·) := by
    rw [← back, List.pairwise_map]
    exact up.imp fun h => Int.not_lt.mp (of_decide_eq_false h)
  cases b with
  | false => exact rise
  | true => exact List.pairwise_reverse.mpr rise
end
end El
namespace El
open PySem PySem.Spec PyProof.Rows L2
/-! ### heaps -/
/-- what B names stays as it was -/
def Kp (B : Addr → Prop) (H H' : Hp) : Prop := ∀ b o, B b → H b = some o → H' b = some o
theorem Kp.refl {B : Addr → Prop} {H : Hp} : Kp B H H := fun _ _ _ e => e
theorem Kp.trans {B : Addr → Prop} {H H1 H2 : Hp} (h : Kp B H H1) (k : Kp B H1 H2) : Kp B H H2 := fun b o hb e => k b o hb (h b o hb e)
theorem Kp.of {B : Addr → Prop} {H H' : Hp} (h : Same H H') : Kp B H H' := fun b o _ e => h b o e
theorem Kp.same {H H' : Hp} (h : Kp (fun _ => True) H H') : Same H H' := fun b o e => h b o trivial e
theorem same_new {H : Hp} {p : Addr} {o : HO} (h : H p = none) : Same H (upd H p o) := fun b u e => by
  rw [upd_ne (ne_of_none e h)]
  exact e
theorem Same.mut {H H' : Hp} {p : Addr} {o : HO} (e : Same H H') (h : H p = none) : Same H (upd H' p o) := fun b u q => by
  rw [upd_ne (ne_of_none q h)]
  exact e b u q
theorem Kp.mut {B : Addr → Prop} {H H' : Hp} {p : Addr} {o : HO} (e : Kp B H H') (h : ¬ B p) : Kp B H (upd H' p o) := fun b u hb q => by
  have n : b ≠ p := fun z => h (z ▸ hb)
  rw [upd_ne n]
  exact e b u hb q
theorem Kp.new {B : Addr → Prop} {H H' : Hp} {p : Addr} {o : HO} (e : Kp B H H') (h : H' p = none) : Kp B H (upd H' p o) := e.trans (Kp.of (same_new h))
theorem Kp.mutF {B : Addr → Prop} {H H' : Hp} {p : Addr} {o : HO} (e : Kp B H H') (h : H p = none) : Kp B H (upd H' p o) := fun b u hb q => by
  rw [upd_ne (ne_of_none q h)]
  exact e b u hb q
theorem Kp.none {B : Addr → Prop} {H H' : Hp} (e : Kp B H H') {p : Addr} (hb : B p) (h : H' p = none) : H p = none := by
  cases z : H p with
  | none => rfl
  | some x =>
    have := e _ _ hb z
    rw [h] at this
    cases this
theorem no_of {H : Hp} {a p : Addr} {o : HO} (h : H a = some o) (hp : H p = none) : p ≠ a := fun z => by
  rw [z, h] at hp
  cases hp
theorem same_none {H H' : Hp} (e : Same H H') {p : Addr} (h : H' p = none) : H p = none := e.free h
theorem ils {n : Nat} (h : n ≤ 100000) : n < sizeLine := Nat.lt_of_le_of_lt h (by decide)
theorem ile {n : Nat} (h : n ≤ 100000) : n ≤ sizeLine := Nat.le_of_lt (ils h)
theorem ints_at {ns : List Int} {i : Nat} {x : V} (h : (ns.map V.int)[i]? = some x) : ∃ n, ns[i]? = some n ∧ x = .int n := by
  rw [List.getElem?_map] at h
  cases e : ns[i]? with
  | none => rw [e] at h; cases h
  | some n => rw [e] at h; exact ⟨n, rfl, (Option.some.inj h).symm⟩
theorem refs_at {ts : List Addr} {i : Nat} {x : V} (h : (ts.map V.ref)[i]? = some x) : ∃ t, ts[i]? = some t ∧ x = .ref t := by
  rw [List.getElem?_map] at h
  cases e : ts[i]? with
  | none => rw [e] at h; cases h
  | some t => rw [e] at h; exact ⟨t, rfl, (Option.some.inj h).symm⟩
theorem at_lt {α : Type} {l : List α} {i : Nat} {x : α} (h : l[i]? = some x) : i < l.length := (List.getElem?_eq_some_iff.mp h).1
theorem at_some {α : Type} {l : List α} {i : Nat} (h : i < l.length) : ∃ x, l[i]? = some x := ⟨l[i], List.getElem?_eq_getElem h⟩
theorem take_snoc {α : Type} {l : List α} {i : Nat} {x : α} (h : l[i]? = some x) : l.take (i + 1) = l.take i ++ [x] := by
  rw [List.take_add_one, h]
  rfl
theorem take_full {α : Type} (l : List α) : l.take l.length = l := List.take_length
/-! ### a list of pairs of ints -/
structure GsAt (H : Hp) (B : Addr → Prop) (a : Addr) (ts : List Addr) (gs : List (Int × Int)) : Prop where
  top : H a = some (.lst (ts.map V.ref))
  ba : B a
  len : ts.length = gs.length
  at' : ∀ (i : Nat) (t : Addr) (g : Int × Int), ts[i]? = some t → gs[i]? = some g → H t = some (.tup [.int g.1, .int g.2])
  b : ∀ t ∈ ts, B t
theorem GsAt.keep {H H' : Hp} {B : Addr → Prop} {a : Addr} {ts : List Addr} {gs : List (Int × Int)} (h : GsAt H B a ts gs) (k : Kp B H H') : GsAt H' B a ts gs :=
  ⟨k _ _ h.ba h.top, h.ba, h.len, fun i t g e f => k _ _ (h.b t (List.mem_of_getElem? e)) (h.at' i t g e f), h.b⟩
theorem GsAt.same {H H' : Hp} {B : Addr → Prop} {a : Addr} {ts : List Addr} {gs : List (Int × Int)} (h : GsAt H B a ts gs) (k : Same H H') : GsAt H' B a ts gs := h.keep (.of k)
theorem GsAt.weaken {H : Hp} {B B' : Addr → Prop} {a : Addr} {ts : List Addr} {gs : List (Int × Int)} (h : GsAt H B a ts gs) (k : ∀ b, B b → B' b) : GsAt H B' a ts gs :=
  ⟨h.top, k _ h.ba, h.len, h.at', fun t m => k _ (h.b t m)⟩
theorem GsAt.seq {K : PySem.W.Frag} {H : Hp} {B : Addr → Prop} {a : Addr} {ts : List Addr} {gs : List (Int × Int)} (h : GsAt H B a ts gs) : SqL K H a (ts.map V.ref) := SqL.of h.top
theorem GsAt.get {H : Hp} {B : Addr → Prop} {a : Addr} {ts : List Addr} {gs : List (Int × Int)} (h : GsAt H B a ts gs) {i : Nat} {x : V} (e : (ts.map V.ref)[i]? = some x) : ∃ t g, x = .ref t ∧ gs[i]? = some g ∧ H t = some (.tup [.int g.1, .int g.2]) := by
  obtain ⟨t, e1, rfl⟩ := refs_at e
  have hi := at_lt e1
  rw [h.len] at hi
  obtain ⟨g, e2⟩ := at_some hi
  exact ⟨t, g, rfl, e2, h.at' i t g e1 e2⟩
/-- pushed -/
theorem GsAt.push {H : Hp} {B : Addr → Prop} {a : Addr} {ts : List Addr} {gs : List (Int × Int)} (h : GsAt H B a ts gs) (hn : a ∉ ts) {q : Addr} {g : Int × Int} (e : H q = some (.tup [.int g.1, .int g.2])) (bq : B q) :
    GsAt (upd H a (.lst (ts.map V.ref ++ [.ref q]))) B a (ts ++ [q]) (gs ++ [g]) := by
  refine ⟨?_, h.ba, ?_, fun i t x e1 e2 => ?_, fun t m => ?_⟩
  · rw [upd_same, List.map_append]
    rfl
  · rw [List.length_append, List.length_append, h.len]
    rfl
  · have nq : q ≠ a := fun z => by
      rw [z, h.top] at e
      cases e
    by_cases hi : i < ts.length
    · rw [List.getElem?_append_left hi] at e1
      rw [List.getElem?_append_left (by rw [← h.len]; exact hi)] at e2
      have nt : t ≠ a := fun z => hn (z ▸ List.mem_of_getElem? e1)
      rw [upd_ne nt]
      exact h.at' i t x e1 e2
    · have hi' : i = ts.length := by
        have := at_lt e1
        rw [List.length_append, List.length_singleton] at this
        omega
      subst hi'
      rw [List.getElem?_append_right (Nat.le_refl _), Nat.sub_self] at e1
      rw [h.len, List.getElem?_append_right (Nat.le_refl _), Nat.sub_self] at e2
      have e1' : q = t := Option.some.inj e1
      have e2' : g = x := Option.some.inj e2
      subst e1' e2'
      rw [upd_ne nq]
      exact e
  · rcases List.mem_append.mp m with m | m
    · exact h.b t m
    · rw [List.mem_singleton.mp m]
      exact bq
theorem GsAt.there {H : Hp} {B : Addr → Prop} {a : Addr} {ts : List Addr} {gs : List (Int × Int)} (h : GsAt H B a ts gs) : ∀ b, (b = a ∨ b ∈ ts) → ∃ x, H b = some x := fun b m => by
  rcases m with rfl | m
  · exact ⟨_, h.top⟩
  · obtain ⟨i, e⟩ := List.mem_iff_getElem?.mp m
    have hl := at_lt e
    rw [h.len] at hl
    obtain ⟨g, eg⟩ := at_some hl
    exact ⟨_, h.at' i b g e eg⟩
theorem GsAt.reB {H : Hp} {B B' : Addr → Prop} {a : Addr} {ts : List Addr} {gs : List (Int × Int)} (h : GsAt H B a ts gs) (k : ∀ b, (b = a ∨ b ∈ ts) → B b → B' b) : GsAt H B' a ts gs :=
  ⟨h.top, k _ (.inl rfl) h.ba, h.len, h.at', fun t m => k _ (.inr m) (h.b t m)⟩
/-- what stands in H and is named by B -/
def Liv (H : Hp) (B : Addr → Prop) (b : Addr) : Prop := (∃ x, H b = some x) ∧ B b
theorem GsAt.liv {H : Hp} {B : Addr → Prop} {a : Addr} {ts : List Addr} {gs : List (Int × Int)} (h : GsAt H B a ts gs) : GsAt H (Liv H B) a ts gs := h.reB fun b m hb => ⟨h.there b m, hb⟩
theorem Liv.no {H : Hp} {B : Addr → Prop} {p : Addr} (h : H p = none) : ¬ Liv H B p := fun ⟨⟨x, e⟩, _⟩ => by
  rw [h] at e
  cases e
theorem Liv.of {H : Hp} {B : Addr → Prop} {p : Addr} {o : HO} (h : H p = some o) (b : B p) : Liv H B p := ⟨⟨o, h⟩, b⟩
theorem Kp.weak {B B' : Addr → Prop} {H H' : Hp} (k : Kp B H H') (h : ∀ b, B' b → B b) : Kp B' H H' := fun b o hb e => k b o (h b hb) e
theorem Kp.liv {B : Addr → Prop} {H0 H H' : Hp} (k : Kp B H H') : Kp (Liv H0 B) H H' := k.weak fun _ h => h.2
/-! ### a list of lists of ints, each its own -/
structure RmsAt (H : Hp) (B : Addr → Prop) (o : Addr) (ts : List Addr) (rs : List (List Int)) : Prop where
  top : H o = some (.lst (ts.map V.ref))
  bo : B o
  nd : ts.Nodup
  no : o ∉ ts
  len : ts.length = rs.length
  at' : ∀ (i : Nat) (t : Addr) (r : List Int), ts[i]? = some t → rs[i]? = some r → H t = some (.lst (r.map V.int))
  b : ∀ t ∈ ts, B t
theorem RmsAt.keep {H H' : Hp} {B : Addr → Prop} {a : Addr} {ts : List Addr} {rs : List (List Int)} (h : RmsAt H B a ts rs) (k : Kp B H H') : RmsAt H' B a ts rs :=
  ⟨k _ _ h.bo h.top, h.bo, h.nd, h.no, h.len, fun i t g e f => k _ _ (h.b t (List.mem_of_getElem? e)) (h.at' i t g e f), h.b⟩
theorem RmsAt.same {H H' : Hp} {B : Addr → Prop} {a : Addr} {ts : List Addr} {rs : List (List Int)} (h : RmsAt H B a ts rs) (k : Same H H') : RmsAt H' B a ts rs := h.keep (.of k)
theorem RmsAt.weaken {H : Hp} {B B' : Addr → Prop} {a : Addr} {ts : List Addr} {rs : List (List Int)} (h : RmsAt H B a ts rs) (k : ∀ b, B b → B' b) : RmsAt H B' a ts rs :=
  ⟨h.top, k _ h.bo, h.nd, h.no, h.len, h.at', fun t m => k _ (h.b t m)⟩
theorem RmsAt.seq {K : PySem.W.Frag} {H : Hp} {B : Addr → Prop} {a : Addr} {ts : List Addr} {rs : List (List Int)} (h : RmsAt H B a ts rs) : SqL K H a (ts.map V.ref) := SqL.of h.top
theorem RmsAt.get {H : Hp} {B : Addr → Prop} {a : Addr} {ts : List Addr} {rs : List (List Int)} (h : RmsAt H B a ts rs) {i : Nat} {x : V} (e : (ts.map V.ref)[i]? = some x) : ∃ t r, x = .ref t ∧ ts[i]? = some t ∧ rs[i]? = some r ∧ H t = some (.lst (r.map V.int)) := by
  obtain ⟨t, e1, rfl⟩ := refs_at e
  have hi := at_lt e1
  rw [h.len] at hi
  obtain ⟨g, e2⟩ := at_some hi
  exact ⟨t, g, rfl, e1, e2, h.at' i t g e1 e2⟩
theorem RmsAt.of {H : Hp} {B : Addr → Prop} {a : Addr} {ts : List Addr} {rs : List (List Int)} (h : RmsAt H B a ts rs) {i : Nat} {r : List Int} (e : rs[i]? = some r) : ∃ t, ts[i]? = some t ∧ H t = some (.lst (r.map V.int)) := by
  have hi := at_lt e
  rw [← h.len] at hi
  obtain ⟨t, e2⟩ := at_some hi
  exact ⟨t, e2, h.at' i t r e2 e⟩
theorem RmsAt.nil {H : Hp} {B : Addr → Prop} {o : Addr} (h : H o = some (.lst [])) (bo : B o) : RmsAt H B o [] [] :=
  ⟨h, bo, List.nodup_nil, by simp, rfl, fun i t r e _ => by simp at e, fun t m => by simp at m⟩
/-- a new empty list behind -/
theorem RmsAt.push {H : Hp} {B : Addr → Prop} {o : Addr} {ts : List Addr} {rs : List (List Int)} (h : RmsAt H B o ts rs) {q : Addr} {r : List Int} (hq : H q = none) (bq : B q) :
    RmsAt (upd (upd H q (.lst (r.map V.int))) o (.lst (ts.map V.ref ++ [.ref q]))) B o (ts ++ [q]) (rs ++ [r]) := by
  have nq : q ≠ o := no_of h.top hq
  have nqt : ∀ t ∈ ts, q ≠ t := fun t m => by
    obtain ⟨i, hi⟩ := List.mem_iff_getElem?.mp m
    have hl := at_lt hi
    rw [h.len] at hl
    obtain ⟨r', er⟩ := at_some hl
    exact no_of (h.at' i t r' hi er) hq
  refine ⟨?_, h.bo, ?_, ?_, ?_, fun i t x e1 e2 => ?_, fun t m => ?_⟩
  · rw [upd_same, List.map_append]
    rfl
  · rw [List.nodup_append]
    exact ⟨h.nd, by simp, fun a ha b hb => by
      rw [List.mem_singleton.mp hb]
      exact (nqt a ha).symm⟩
  · intro m
    rcases List.mem_append.mp m with m | m
    · exact h.no m
    · exact nq (List.mem_singleton.mp m).symm
  · rw [List.length_append, List.length_append, h.len]
    rfl
  · by_cases hi : i < ts.length
    · rw [List.getElem?_append_left hi] at e1
      rw [List.getElem?_append_left (by rw [← h.len]; exact hi)] at e2
      have nt : t ≠ o := fun z => h.no (z ▸ List.mem_of_getElem? e1)
      rw [upd_ne nt, upd_ne (nqt t (List.mem_of_getElem? e1)).symm]
      exact h.at' i t x e1 e2
    · have hi' : i = ts.length := by
        have := at_lt e1
        rw [List.length_append, List.length_singleton] at this
        omega
      subst hi'
      rw [List.getElem?_append_right (Nat.le_refl _), Nat.sub_self] at e1
      rw [h.len, List.getElem?_append_right (Nat.le_refl _), Nat.sub_self] at e2
      have e1' : q = t := Option.some.inj e1
      have e2' : r = x := Option.some.inj e2
      subst e1' e2'
      rw [upd_ne nq, upd_same]
  · rcases List.mem_append.mp m with m | m
    · exact h.b t m
    · rw [List.mem_singleton.mp m]
      exact bq
/-- one of them changed -/
theorem RmsAt.set {H : Hp} {B : Addr → Prop} {o : Addr} {ts : List Addr} {rs : List (List Int)} (h : RmsAt H B o ts rs) {i : Nat} {t : Addr} (e : ts[i]? = some t) (r : List Int) :
    RmsAt (upd H t (.lst (r.map V.int))) B o ts (rs.set i r) := by
  have nt : t ≠ o := fun z => h.no (z ▸ List.mem_of_getElem? e)
  refine ⟨?_, h.bo, h.nd, h.no, ?_, fun j u x e1 e2 => ?_, h.b⟩
  · rw [upd_ne nt.symm]
    exact h.top
  · rw [List.length_set]
    exact h.len
  · by_cases hj : j = i
    · subst hj
      have e' : u = t := Option.some.inj (e1.symm.trans e)
      subst e'
      rw [upd_same]
      have hl := at_lt e1
      rw [h.len] at hl
      rw [List.getElem?_set_self hl] at e2
      have : r = x := Option.some.inj e2
      rw [this]
    · rw [List.getElem?_set_ne (fun z => hj z.symm)] at e2
      have hut : u ≠ t := fun z => by
        subst z
        exact hj (nd_ix h.nd e1 e)
      rw [upd_ne hut]
      exact h.at' j u x e1 e2
theorem RmsAt.newTop {H H' : Hp} {B B' : Addr → Prop} {o : Addr} {ts : List Addr} {rs : List (List Int)} (h : RmsAt H B o ts rs) (k : ∀ b u, (b = o ∨ b ∈ ts) → H b = some u → H' b = some u) (kb : ∀ b, (b = o ∨ b ∈ ts) → B' b) : RmsAt H' B' o ts rs :=
  ⟨k _ _ (.inl rfl) h.top, kb _ (.inl rfl), h.nd, h.no, h.len, fun i t r e f => k _ _ (.inr (List.mem_of_getElem? e)) (h.at' i t r e f), fun t m => kb t (.inr m)⟩
/-! ### the dict of patience -/
def pks (gs : List (Int × Int)) : List (L2.Key × V) := gs.map fun g => (Sum.inl g.1, V.int g.2)
theorem pks_len (gs : List (Int × Int)) : (pks gs).length = gs.length := List.length_map _
theorem pks_keys (gs : List (Int × Int)) : (pks gs).map (·.1) = (gs.map (·.1)).map Sum.inl := by
  unfold pks
  rw [List.map_map, List.map_map]
  rfl
theorem pks_snoc (gs : List (Int × Int)) (g : Int × Int) : pks (gs ++ [g]) = pks gs ++ [(Sum.inl g.1, V.int g.2)] := List.map_append
theorem pks_none {gs : List (Int × Int)} {a : Int} (h : a ∉ gs.map (·.1)) : valV (pks gs) (Sum.inl a) = none := by
  induction gs with
  | nil => rfl
  | cons g gs ih =>
    have h' : ¬ (a = g.1 ∨ a ∈ gs.map (·.1)) := fun z => h (by rw [List.map_cons]; exact List.mem_cons.mpr z)
    have n : ¬ (Sum.inl g.1 : L2.Key) = Sum.inl a := fun z => h' (.inl (Sum.inl.inj z).symm)
    show valV ((Sum.inl g.1, V.int g.2) :: pks gs) (Sum.inl a) = none
    rw [valV_neg n]
    exact ih fun z => h' (.inr z)
theorem pks_some : ∀ {gs : List (Int × Int)} {g : Int × Int}, (gs.map (·.1)).Nodup → g ∈ gs → valV (pks gs) (Sum.inl g.1) = some (.int g.2)
  | x :: gs, g, nd, h => by
    have nd' : (x.1 :: gs.map (·.1)).Nodup := nd
    obtain ⟨n1, n2⟩ := List.nodup_cons.mp nd'
    show valV ((Sum.inl x.1, V.int x.2) :: pks gs) (Sum.inl g.1) = some (.int g.2)
    rcases List.mem_cons.mp h with e | h
    · subst e
      rw [valV_pos rfl]
    · have n : ¬ (Sum.inl x.1 : L2.Key) = Sum.inl g.1 := fun z => n1 (by
        rw [Sum.inl.inj z]
        exact List.mem_map.mpr ⟨g, h, rfl⟩)
      rw [valV_neg n]
      exact pks_some n2 h
theorem putK_snoc {gs : List (Int × Int)} {g : Int × Int} (h : g.1 ∉ gs.map (·.1)) : putK (pks gs) (Sum.inl g.1) (V.int g.2) = pks (gs ++ [g]) := by
  rw [putK_new _ (pks_none h), pks_snoc]
theorem Fit.take_no {gs : List (Int × Int)} (f : Fit gs) {i : Nat} {g : Int × Int} (h : gs[i]? = some g) : g.1 ∉ (gs.take i).map (·.1) := by
  intro m
  have e : gs = gs.take i ++ g :: gs.drop (i + 1) := by
    have hl := at_lt h
    have e2 : gs[i] = g := by
      rw [List.getElem?_eq_getElem hl] at h
      exact Option.some.inj h
    rw [← e2, List.getElem_cons_drop, List.take_append_drop]
  have nd := f.nd
  rw [e, List.map_append, List.nodup_append] at nd
  exact nd.2.2 _ m g.1 (by rw [List.map_cons]; exact List.mem_cons_self) rfl
/-! ### rules by a written part that is named (for what stands in a comprehension) -/
section
variable {X : Cx}
theorem lenK (K : PySem.W.Frag) (e : X.K = K := by rfl) : CallR X (.builtin "len") (fun xs H Q => ∃ p ys, xs = [.ref p] ∧ (SqL K H p ys ∨ SqT K H p ys) ∧ Q (.int ys.length) H) := by
  subst e
  exact call_len_seq
theorem ixlK (K : PySem.W.Frag) (e : X.K = K := by rfl) : IxR X (rIxL K) := by
  subst e
  exact ix_list
theorem ixtK (K : PySem.W.Frag) (e : X.K = K := by rfl) : IxR X (rIxT K) := by
  subst e
  exact ix_tup
theorem sllK (K : PySem.W.Frag) (e : X.K = K := by rfl) : SlR X (rSlL K) := by
  subst e
  exact sl_list
theorem eqDK (K : PySem.W.Frag) (hu : X.A.units + 64 < cLine) (e : X.K = K := by rfl) : OpR X (compareOp .Eq) (rEqD K) := by
  subst e
  exact op_eqD hu
theorem neDK (K : PySem.W.Frag) (hu : X.A.units + 64 < cLine) (e : X.K = K := by rfl) : OpR X (compareOp .NotEq) (rNeD K) := by
  subst e
  exact op_neD hu
theorem isiK (K : PySem.W.Frag) (e : X.K = K := by rfl) : CallR X (.builtin "isinstance") (rIsi K) := by
  subst e
  exact call_isi
theorem sumK (K : PySem.W.Frag) (hc : X.calm = true) (e : X.K = K := by rfl) : CallR X (.builtin "sum") (rSum K) := by
  subst e
  exact cr_sum hc
theorem inK (K : PySem.W.Frag) (e : X.K = K := by rfl) : OpR X (compareOp .In) (rIn K false) := by
  subst e
  exact op_in_seq
theorem notInK (K : PySem.W.Frag) (e : X.K = K := by rfl) : OpR X (compareOp .NotIn) (rIn K true) := by
  subst e
  exact op_notIn_seq
theorem listOfK (K : PySem.W.Frag) (e : X.K = K := by rfl) : CallR X (.type "list") (fun xs H Q => ∃ p ys, xs = [.ref p] ∧ (SqL K H p ys ∨ SqT K H p ys) ∧ ∀ l, H l = none → Q (.ref l) (upd H l (.lst ys))) := by
  subst e
  exact call_list_of
theorem pgTupK {es : List Expr} {k : Nat} {t : TGs} {pos : Pos} (K : PySem.W.Frag) (n : Nat) (hc : X.calm = true) (h : PGs X es t)
    (hn : (assignEach es X.env).length = n := by rfl) (hst : (assignEach es X.env).findIdx? (·.1) = none := by rfl) (e : X.K = K := by rfl) : PG X (.Tuple es k pos) (gTup K n t) := by
  subst e
  exact pg_tup hc h hn hst
theorem bmK {T : String} {name : Str} {id : String} {o e : Expr} {es : List Expr} {to : TE} {t : TA} {apos cpos : Pos} {r : V → List V → Hp → VK → Prop} (K : PySem.W.Frag) (pa : PlainAttrs T) (slot : Slot T name id) (hty : typeOf (.builtin id) = pure (.type "method_descriptor")) (hm : MtR X id r) (ho : PE X o to) (ha : PA X (e :: es) t)
    (hbase : attributeBase o name X.env (eval o X.env) = eval o X.env := by rfl)
    (hfew : ((backTo cpos (starEach (e :: es) X.env)).all (fun x => !x.1) && (backToKw cpos (keywordEach [] X.env)).all (fun x => x.1.isSome)
      && decide ((e :: es).length + ([] : List Keyword).length + (if ([] : List Keyword).isEmpty then 0 else 1) < 30)) = true := by rfl)
    (hline : (apos.endLine == cpos.line) = true := by rfl) (hs : starEach (e :: es) X.env = (false, eval e X.env) :: starEach es X.env := by rfl) (hplain : (backTo cpos (starEach es X.env)).any (·.1) = false := by rfl) (eK : X.K = K := by rfl) :
    PE X (.Call (.Attribute o name apos) (e :: es) [] cpos) (tBM K T r to t) := by
  subst eK
  exact pe_bm pa slot hty hm ho ha hbase hfew hline hs hplain
end
/-! ### cuts: what holds between two parts of a body -/
section
variable {σ : L2.St} {H : Hp} {D : Ends} {c : TT} {t u tb : TS}
theorem while_to (W : Nat → L2.St → Hp → Prop) (E : L2.St → Hp → Prop) (h0 : ∃ m, W m σ H) (hd : ∀ σ H, E σ H → D.nx σ H)
    (hs : ∀ X : L2.St → Hp → Prop, (∀ σ H, E σ H → X σ H) → ∀ m σ H, W m σ H → c σ H fun b H1 => if b = true then ∃ N : L2.St → Hp → Prop, (∀ σ' H', N σ' H' → ∃ m', m' < m ∧ W m' σ' H') ∧ tb { D with nx := N, ct := N, bk := X } σ H1 else X σ H1) : tWhile c tb D σ H := ⟨W, h0, hs D.nx hd⟩
theorem seq_to (E : L2.St → Hp → Prop) (h1 : ∀ X : L2.St → Hp → Prop, (∀ σ H, E σ H → X σ H) → t { D with nx := X } σ H) (h2 : ∀ σ H, E σ H → u D σ H) : tSeq t u D σ H := h1 (u D) h2
theorem seq_set {i : Nat} {v : V} (h : u D (σ.set i (some v)) H) : tSeq (tAsg (tC v) (gName i)) u D σ H := h
theorem st_to (E : L2.St → Hp → Prop) (h1 : ∀ X : L2.St → Hp → Prop, (∀ σ H, E σ H → X σ H) → t { D with nx := X } σ H) (h2 : ∀ σ H, E σ H → D.nx σ H) : t D σ H := h1 D.nx h2
end
theorem ixN_of {n j : Nat} (hj : j < n) : ixN n (j : Int) = some j := by
  unfold ixN
  rw [if_pos (by omega), if_pos (by omega), Int.toNat_natCast]
theorem seq_ix {n j : Nat} (hj : j < n) : seqIndex? (j : Int) n = some j := (ixN_seq (ixN_of hj)).1
theorem at_pick {xs : List V} {r : Int} (h0 : 0 ≤ r) (h1 : r < xs.length) : ∃ v, atI xs r = some v ∧ v ∈ xs := by
  obtain ⟨k, rfl⟩ : ∃ k : Nat, r = k := ⟨r.toNat, by omega⟩
  obtain ⟨v, e⟩ := at_some (show k < xs.length by omega)
  exact ⟨v, atI_nat e, List.mem_of_getElem? e⟩
theorem erase_perm {α : Type} : ∀ {l : List α} {k : Nat} {x : α}, l[k]? = some x → (x :: l.eraseIdx k).Perm l
  | [], _, _, h => by simp at h
  | a :: l, 0, x, h => by
    obtain rfl : a = x := Option.some.inj h
    exact List.Perm.refl _
  | a :: l, k + 1, x, h => by
    have ih := erase_perm (l := l) (k := k) (x := x) (by simpa using h)
    exact (List.Perm.swap a x (l.eraseIdx k)).trans (ih.cons a)
/-! ### data -/
def dInts (ns : List Int) : PyData := .list (ns.map .int)
def dGs (gs : List (Int × Int)) : PyData := .list (gs.map fun g => .tuple [.int g.1, .int g.2])
def dRows (rs : List (List Int)) : PyData := .list (rs.map dInts)
theorem canAll : ∀ {xs : List PyData}, (∀ x ∈ xs, x.canLay0 = true) → PyData.canLayAll0 xs = true
  | [], _ => by simp [PyData.canLayAll0]
  | x :: xs, h => by
    rw [PyData.canLayAll0, h x List.mem_cons_self, canAll fun y hy => h y (List.mem_cons_of_mem _ hy)]
    rfl
theorem depAll {n : Nat} : ∀ {xs : List PyData}, (∀ x ∈ xs, x.depth ≤ n) → PyData.depthAll xs ≤ n
  | [], _ => by simp [PyData.depthAll]
  | x :: xs, h => by
    rw [PyData.depthAll]
    exact Nat.max_le.mpr ⟨h x List.mem_cons_self, depAll fun y hy => h y (List.mem_cons_of_mem _ hy)⟩
structure Oks (n : Nat) (d : PyData) : Prop where
  can : d.canLay0 = true
  dep : d.depth ≤ n
theorem Oks.int (i : Int) : Oks 0 (.int i) := ⟨by simp [PyData.canLay0], by simp [PyData.depth]⟩
theorem Oks.mono {n m : Nat} {d : PyData} (h : Oks n d) (k : n ≤ m) : Oks m d := ⟨h.can, Nat.le_trans h.dep k⟩
theorem Oks.lst {n : Nat} {xs : List PyData} (h : ∀ x ∈ xs, Oks n x) : Oks (n + 1) (.list xs) := ⟨by rw [PyData.canLay0]; exact canAll fun x m => (h x m).can, by rw [PyData.depth]; exact Nat.succ_le_succ (depAll fun x m => (h x m).dep)⟩
theorem Oks.tup {n : Nat} {xs : List PyData} (h : ∀ x ∈ xs, Oks n x) : Oks (n + 1) (.tuple xs) := ⟨by rw [PyData.canLay0]; exact canAll fun x m => (h x m).can, by rw [PyData.depth]; exact Nat.succ_le_succ (depAll fun x m => (h x m).dep)⟩
theorem Oks.ints (ns : List Int) : Oks 1 (dInts ns) := .lst fun x m => by
  obtain ⟨n, _, rfl⟩ := List.mem_map.mp m
  exact .int n
theorem Oks.gs (gs : List (Int × Int)) : Oks 2 (dGs gs) := .lst fun x m => by
  obtain ⟨g, _, rfl⟩ := List.mem_map.mp m
  refine .tup fun y hy => ?_
  rcases List.mem_cons.mp hy with rfl | hy
  · exact .int _
  · rw [List.mem_singleton.mp hy]
    exact .int _
theorem Oks.rows (rs : List (List Int)) : Oks 2 (dRows rs) := .lst fun x m => by
  obtain ⟨r, _, rfl⟩ := List.mem_map.mp m
  exact .ints r
theorem Oks.shaped {n : Nat} {d : PyData} (h : Oks n d) (k : n ≤ 64 := by decide) : SeqAt.shaped d = true := by
  unfold SeqAt.shaped
  rw [h.can, decide_eq_true (Nat.le_trans h.dep k)]
  rfl
theorem Oks.eqv {n : Nat} {d : PyData} (h : Oks n d) : PyData.eqv d d = true := SeqAt.eqv_refl d h.can
theorem dp_ints {K : PySem.W.Frag} {H : Hp} {ns : List Int} : DpAll K H (ns.map V.int) (ns.map .int) := by
  induction ns with
  | nil => exact .nil
  | cons n ns ih => exact .cons (.int n) ih
theorem Dp.ints {K : PySem.W.Frag} {H : Hp} {a : Addr} {ns : List Int} (h : H a = some (.lst (ns.map V.int))) : Dp K H (.ref a) (dInts ns) := .lst (SqL.of h) dp_ints
theorem dpAll_of {K : PySem.W.Frag} {H : Hp} : ∀ {vs : List V} {ds : List PyData}, vs.length = ds.length → (∀ (i : Nat) (v : V) (d : PyData), vs[i]? = some v → ds[i]? = some d → Dp K H v d) → DpAll K H vs ds
  | [], [], _, _ => .nil
  | v :: vs, d :: ds, hl, h => .cons (h 0 v d rfl rfl) (dpAll_of (by simpa using hl) fun i v d e f => h (i + 1) v d (by simpa using e) (by simpa using f))
  | [], _ :: _, hl, _ => by simp at hl
  | _ :: _, [], hl, _ => by simp at hl
theorem GsAt.dp {K : PySem.W.Frag} {H : Hp} {B : Addr → Prop} {a : Addr} {ts : List Addr} {gs : List (Int × Int)} (h : GsAt H B a ts gs) : Dp K H (.ref a) (dGs gs) := by
  refine .lst h.seq (dpAll_of (by rw [List.length_map, List.length_map, h.len]) fun i v d e f => ?_)
  obtain ⟨t, g, rfl, eg, et⟩ := h.get e
  rw [List.getElem?_map, eg] at f
  obtain rfl := Option.some.inj f
  exact .tup (SqT.of et) (.cons (.int _) (.cons (.int _) .nil))
theorem RmsAt.dp {K : PySem.W.Frag} {H : Hp} {B : Addr → Prop} {a : Addr} {ts : List Addr} {rs : List (List Int)} (h : RmsAt H B a ts rs) : Dp K H (.ref a) (dRows rs) := by
  refine .lst h.seq (dpAll_of (by rw [List.length_map, List.length_map, h.len]) fun i v d e f => ?_)
  obtain ⟨t, r, rfl, _, er, et⟩ := h.get e
  rw [List.getElem?_map, er] at f
  obtain rfl := Option.some.inj f
  exact Dp.ints et
theorem eqv_nil (gs : List Int) : PyData.eqv (dInts gs) (dInts []) = gs.isEmpty := by
  cases gs with
  | nil => rfl
  | cons x r => rfl
theorem relTy (n : String) : RelV (.ty n) (.type n) := rfl
theorem FnOk.or {P : Program} {w : World} {K : PySem.W.Frag} {mg : Str → Option Value} {base : Heap} {CX : CXT} {k : Nat} {f : Addr} {fd : FuncData} {ps : List Str} {sp sp' : Sp} (F : FnOk P w K mg base CX k f fd ps sp) (F' : FnOk P w K mg base CX k f fd ps sp') :
    FnOk P w K mg base CX k f fd ps (fun vs H Q E => sp vs H Q E ∨ sp' vs H Q E) :=
  ⟨fun vs H Q E h => h.elim (F.len vs H Q E) (F'.len vs H Q E), fun A outer s H args us vs Q E hr e0 hb r h => h.elim (F.run A outer s H args us vs Q E hr e0 hb r) (F'.run A outer s H args us vs Q E hr e0 hb r)⟩
/-! ### built-ins by their names -/
structure Bi (mg : Str → Option Value) : Prop where
  len : mg "len" = none
  range : mg "range" = none
  enumerate : mg "enumerate" = none
  sorted : mg "sorted" = none
  sum : mg "sum" = none
  min : mg "min" = none
  max : mg "max" = none
  isinstance : mg "isinstance" = none
  zip : mg "zip" = none
  list_ : mg "list" = none
  tuple_ : mg "tuple" = none
  int_ : mg "int" = none
  bool_ : mg "bool" = none
  str_ : mg "str" = none
  abs : mg "abs" = none
  repr : mg "repr" = none
  dict_ : mg "dict" = none
  any : mg "any" = none
  all : mg "all" = none
  set_ : mg "set" = none
  reversed : mg "reversed" = none
  ValueError_ : mg "ValueError" = none
  divmod : mg "divmod" = none
end El
namespace El
open PySem PySem.Spec PyProof.Rows L2
/-- how many live in each -/
def lens (rs : List (List Int)) : List Int := rs.map fun r => (r.length : Int)
theorem lens_length (rs : List (List Int)) : (lens rs).length = rs.length := List.length_map _
theorem lens_at {rs : List (List Int)} {i : Nat} {r : List Int} (h : rs[i]? = some r) : (lens rs)[i]? = some (r.length : Int) := by
  unfold lens
  rw [List.getElem?_map, h]
  rfl
theorem cut_to (xs : List V) (j : Nat) : cutV xs none (some (j : Int)) = xs.take j := by
  unfold cutV
  rw [HT.sIx_none, HT.sIx_nat]
  show (List.drop 0 xs).take (min j xs.length - 0) = _
  rw [List.drop_zero, Nat.sub_zero, ← List.take_eq_take_min]
/-- the pair that stands at a value -/
def prOf (H : Hp) : V → Int × Int
  | .ref t => match H t with
    | some (.tup [.int i, .int j]) => (i, j)
    | _ => (0, 0)
  | _ => (0, 0)
theorem prOf_is {H : Hp} {t : Addr} {g : Int × Int} (h : H t = some (.tup [.int g.1, .int g.2])) : prOf H (.ref t) = g := by
  show (match H t with
    | some (.tup [.int i, .int j]) => (i, j)
    | _ => (0, 0)) = g
  rw [h]
theorem GsAt.prs {H : Hp} {B : Addr → Prop} {a : Addr} {ts : List Addr} {gs : List (Int × Int)} (h : GsAt H B a ts gs) : (ts.map V.ref).map (prOf H) = gs := by
  refine List.ext_getElem? fun i => ?_
  rw [List.getElem?_map]
  cases e : (ts.map V.ref)[i]? with
  | none =>
    have hl : (ts.map V.ref).length ≤ i := List.getElem?_eq_none_iff.mp e
    rw [List.length_map, h.len] at hl
    rw [List.getElem?_eq_none_iff.mpr hl]
    rfl
  | some x =>
    obtain ⟨t, g, rfl, eg, et⟩ := h.get e
    rw [eg]
    show some (prOf H (.ref t)) = some g
    rw [prOf_is et]
theorem GsAt.mem {H : Hp} {B : Addr → Prop} {a : Addr} {ts : List Addr} {gs : List (Int × Int)} (h : GsAt H B a ts gs) : ∀ x ∈ ts.map V.ref, ∃ t, x = V.ref t ∧ H t = some (.tup [.int (prOf H x).1, .int (prOf H x).2]) := fun x m => by
  obtain ⟨i, e⟩ := List.mem_iff_getElem?.mp m
  obtain ⟨t, g, rfl, eg, et⟩ := h.get e
  refine ⟨t, rfl, ?_⟩
  rw [prOf_is et]
  exact et
theorem sorted_prs {k : V → Int × Int} {ys xs : List V} {gs : List (Int × Int)} (f : Fit gs) (hx : xs.map k = gs) (hs : SrtO.Srtd (ltP k) ys) (hb : SrtO.Stb (ltP k) ys xs) : ys.reverse.map k = byAge gs := by
  refine byAge_of f ?_ ?_
  · rw [← hx]
    exact ((List.reverse_perm ys).trans hb.perm).map k
  · rw [List.map_reverse, List.pairwise_reverse, List.pairwise_map]
    refine hs.imp fun {a b} h => ?_
    have h' : SrtO.lexB (k b) (k a) = false := h
    rw [SrtO.lexB_no] at h'
    omega
theorem cut_1 (xs : List V) : cutV xs (some 1) none = xs.drop 1 := by
  unfold cutV
  rw [show HT.sIx xs.length 0 (some 1) = min 1 xs.length from HT.sIx_nat xs.length 0 1, HT.sIx_none]
  cases xs with
  | nil => rfl
  | cons x r =>
    rw [show min 1 (x :: r).length = 1 by
      rw [List.length_cons]
      omega]
    show (List.take ((x :: r).length - 1) r) = r
    rw [List.length_cons, Nat.add_sub_cancel]
    exact List.take_length
theorem lens_falls {gs : List (Int × Int)} (f : Fit gs) {i : Nat} {x y : Int} (h1 : (lens (settle gs))[i]? = some x) (h2 : ((lens (settle gs)).drop 1)[i]? = some y) : ¬ x < y := by
  rw [List.getElem?_drop] at h2
  unfold lens at h1 h2
  rw [List.getElem?_map] at h1 h2
  have hp := settleL_falls (byAge gs) f.byAge.pos
  cases e1 : (settle gs)[i]? with
  | none => rw [e1] at h1; cases h1
  | some r =>
    cases e2 : (settle gs)[1 + i]? with
    | none => rw [e2] at h2; cases h2
    | some s =>
      rw [e1] at h1
      rw [e2] at h2
      obtain rfl : (r.length : Int) = x := Option.some.inj h1
      obtain rfl : (s.length : Int) = y := Option.some.inj h2
      obtain ⟨l1, q1⟩ := List.getElem?_eq_some_iff.mp (show (settleL (byAge gs))[i]? = some r from e1)
      obtain ⟨l2, q2⟩ := List.getElem?_eq_some_iff.mp (show (settleL (byAge gs))[1 + i]? = some s from e2)
      have := List.pairwise_iff_getElem.mp hp i (1 + i) l1 l2 (by omega)
      rw [q1, q2] at this
      omega
theorem dget_pks {H : Hp} {d : Addr} {gs : List (Int × Int)} {g : Int × Int} (h : H d = some (.dK (pks gs))) (f : Fit gs) (m : g ∈ gs) : DGet H d (.int g.1) (some (.int g.2)) := by
  have q := DGet.k (k := Sum.inl g.1) h
  rw [pks_some f.nd m] at q
  exact q
theorem log_lt {m : Int} {k : Nat} (h0 : 0 < m) (h : m < 2 ^ k) : m.natAbs.log2 < k := by
  obtain ⟨j, rfl⟩ : ∃ j : Nat, m = j := ⟨m.toNat, by omega⟩
  have h' : j < 2 ^ k := by exact_mod_cast h
  rw [Int.natAbs_natCast]
  exact (Nat.log2_lt (by omega)).mpr h'
theorem GsAt.mix {H : Hp} {B B' : Addr → Prop} {a m : Addr} {ts : List Addr} {gs : List (Int × Int)} {ys : List V} (h : GsAt H B a ts gs) (e : H m = some (.lst ys)) (bm : B' m) (hb : ∀ b, B b → B' b) (p : ys.Perm (ts.map V.ref)) :
    ∃ ts' gs', GsAt H B' m ts' gs' ∧ gs'.Perm gs := by
  have hm : ∀ y ∈ ys, ∃ t, y = V.ref t ∧ t ∈ ts := fun y hy => by
    obtain ⟨t, ht, rfl⟩ := List.mem_map.mp (p.mem_iff.mp hy)
    exact ⟨t, rfl, ht⟩
  obtain ⟨us, rfl, hu⟩ : ∃ us : List Addr, ys = us.map V.ref ∧ ∀ u ∈ us, u ∈ ts := by
    clear p e
    induction ys with
    | nil => exact ⟨[], rfl, fun u hu => absurd hu (by simp)⟩
    | cons y ys ih =>
      obtain ⟨t, rfl, ht⟩ := hm y List.mem_cons_self
      obtain ⟨us, rfl, hu⟩ := ih fun z hz => hm z (List.mem_cons_of_mem _ hz)
      exact ⟨t :: us, rfl, fun u h => by
        rcases List.mem_cons.mp h with rfl | h
        · exact ht
        · exact hu u h⟩
  refine ⟨us, (us.map V.ref).map (prOf H), ⟨e, bm, by rw [List.length_map, List.length_map], fun i t g e1 e2 => ?_, fun t ht => hb t (h.b t (hu t ht))⟩, ?_⟩
  · rw [List.getElem?_map, List.getElem?_map, e1] at e2
    have e2' : prOf H (.ref t) = g := Option.some.inj e2
    obtain ⟨j, ej⟩ := List.mem_iff_getElem?.mp (hu t (List.mem_of_getElem? e1))
    obtain ⟨t', g', e3, eg, et⟩ := h.get (i := j) (x := .ref t) (by rw [List.getElem?_map, ej]; rfl)
    injection e3 with e3
    subst e3
    rw [prOf_is et] at e2'
    rw [← e2']
    exact et
  · have := p.map (prOf H)
    rw [h.prs] at this
    exact this
/-- put in anywhere -/
theorem GsAt.ins {H : Hp} {B : Addr → Prop} {a : Addr} {ts : List Addr} {gs : List (Int × Int)} {ys : List V} (h : GsAt H B a ts gs) (hn : a ∉ ts) {q : Addr} {g : Int × Int} (e : H q = some (.tup [.int g.1, .int g.2])) (bq : B q) (p : ys.Perm (ts.map V.ref ++ [.ref q])) :
    ∃ ts' gs', GsAt (upd H a (.lst ys)) B a ts' gs' ∧ gs'.Perm (gs ++ [g]) ∧ a ∉ ts' ∧ ys = ts'.map V.ref := by
  have nq : q ≠ a := fun z => by
    rw [z, h.top] at e
    cases e
  have hm : ∀ y ∈ ys, ∃ t, y = V.ref t ∧ t ∈ ts ++ [q] := fun y hy => by
    rcases List.mem_append.mp (p.mem_iff.mp hy) with m | m
    · obtain ⟨t, ht, rfl⟩ := List.mem_map.mp m
      exact ⟨t, rfl, List.mem_append_left _ ht⟩
    · exact ⟨q, List.mem_singleton.mp m, List.mem_append_right _ (List.mem_singleton.mpr rfl)⟩
  obtain ⟨us, rfl, hu⟩ : ∃ us : List Addr, ys = us.map V.ref ∧ ∀ u ∈ us, u ∈ ts ++ [q] := by
    clear p
    induction ys with
    | nil => exact ⟨[], rfl, fun u hu => absurd hu (by simp)⟩
    | cons y ys ih =>
      obtain ⟨t, rfl, ht⟩ := hm y List.mem_cons_self
      obtain ⟨us, rfl, hu⟩ := ih fun z hz => hm z (List.mem_cons_of_mem _ hz)
      exact ⟨t :: us, rfl, fun u h => by
        rcases List.mem_cons.mp h with rfl | h
        · exact ht
        · exact hu u h⟩
  have ha : ∀ u ∈ us, u ≠ a ∧ B u ∧ ∃ x : Int × Int, H u = some (.tup [.int x.1, .int x.2]) := fun u m => by
    rcases List.mem_append.mp (hu u m) with m | m
    · obtain ⟨j, ej⟩ := List.mem_iff_getElem?.mp m
      obtain ⟨t', g', e3, eg, et⟩ := h.get (i := j) (x := .ref u) (by rw [List.getElem?_map, ej]; rfl)
      injection e3 with e3
      subst e3
      exact ⟨fun z => hn (z ▸ m), h.b u m, g', et⟩
    · rw [List.mem_singleton.mp m]
      exact ⟨nq, bq, g, e⟩
  refine ⟨us, (us.map V.ref).map (prOf H), ⟨upd_same, h.ba, by rw [List.length_map, List.length_map], fun i t x e1 e2 => ?_, fun t m => (ha t m).2.1⟩, ?_, fun m => (ha a m).1 rfl, rfl⟩
  · rw [List.getElem?_map, List.getElem?_map, e1] at e2
    have e2' : prOf H (.ref t) = x := Option.some.inj e2
    obtain ⟨n1, _, y, ey⟩ := ha t (List.mem_of_getElem? e1)
    rw [prOf_is ey] at e2'
    subst e2'
    rw [upd_ne n1]
    exact ey
  · have := p.map (prOf H)
    rw [List.map_append, h.prs] at this
    rw [show [V.ref q].map (prOf H) = [g] by show [prOf H (.ref q)] = [g]; rw [prOf_is e]] at this
    exact this
theorem GsAt.cat {H : Hp} {B : Addr → Prop} {a l : Addr} {ts : List Addr} {gs : List (Int × Int)} (h : GsAt H B a ts gs) {q : Addr} {g : Int × Int} (e : H q = some (.tup [.int g.1, .int g.2])) (el : H l = some (.lst (ts.map V.ref ++ [.ref q]))) :
    GsAt H (fun _ => True) l (ts ++ [q]) (gs ++ [g]) := by
  refine ⟨by rw [List.map_append]; exact el, trivial, by rw [List.length_append, List.length_append, h.len]; rfl, fun i t x e1 e2 => ?_, fun _ _ => trivial⟩
  by_cases hi : i < ts.length
  · rw [List.getElem?_append_left hi] at e1
    rw [List.getElem?_append_left (by rw [← h.len]; exact hi)] at e2
    exact h.at' i t x e1 e2
  · have hi' : i = ts.length := by
      have := at_lt e1
      rw [List.length_append, List.length_singleton] at this
      omega
    subst hi'
    rw [List.getElem?_append_right (Nat.le_refl _), Nat.sub_self] at e1
    rw [h.len, List.getElem?_append_right (Nat.le_refl _), Nat.sub_self] at e2
    obtain rfl : q = t := Option.some.inj e1
    obtain rfl : g = x := Option.some.inj e2
    exact e
theorem inV_ints (x : Int) (ns : List Int) : inV (.int x) (ns.map V.int) = decide (x ∈ ns) := by
  unfold inV
  rw [List.any_map]
  induction ns with
  | nil => rfl
  | cons n ns ih =>
    rw [List.any_cons, ih]
    have e : ((fun y => eqV y (V.int x)) ∘ V.int) n = decide (x = n) := by
      show eqV (.int n) (.int x) = decide (x = n)
      have e2 : eqV (.int n) (.int x) = decide (n = x) := by
        unfold eqV
        first | rfl | simp
      rw [e2]
      by_cases h : n = x
      · subst h; simp
      · rw [decide_eq_false h, decide_eq_false (fun z => h z.symm)]
    rw [e]
    by_cases h : x = n
    · subst h
      simp
    · rw [decide_eq_false h, Bool.false_or]
      by_cases h2 : x ∈ ns
      · rw [decide_eq_true h2, decide_eq_true (List.mem_cons_of_mem _ h2)]
      · rw [decide_eq_false h2, decide_eq_false (fun z => (List.mem_cons.mp z).elim h h2)]
theorem flat_ints (ns : List Int) : (ns.map V.int).all flatV = true := by
  rw [List.all_map, List.all_eq_true]
  intro x _
  rfl
theorem eqvAll_ints : ∀ a b : List Int, PyData.eqvAll (a.map .int) (b.map .int) = decide (a = b)
  | [], [] => rfl
  | [], y :: b => by
    rw [decide_eq_false (by simp)]
    rfl
  | x :: a, [] => by
    rw [decide_eq_false (by simp)]
    rfl
  | x :: a, y :: b => by
    rw [List.map_cons, List.map_cons, PyData.eqvAll, eqvAll_ints a b]
    show ((x == y) && decide (a = b)) = _
    by_cases h : x = y
    · subst h
      by_cases h2 : a = b
      · subst h2
        simp
      · rw [decide_eq_false h2, decide_eq_false (fun z => h2 (List.cons.inj z).2)]
        simp
    · have : (x == y) = false := by simpa using h
      rw [this, decide_eq_false (fun z => h (List.cons.inj z).1)]
      rfl
theorem eqv_ints (a b : List Int) : PyData.eqv (dInts a) (dInts b) = decide (a = b) := by
  unfold dInts
  rw [PyData.eqv]
  exact eqvAll_ints a b
theorem cut_at (xs : List V) (k : Nat) : cutV xs (some (k : Int)) (some ((k : Int) + 1)) = (xs.drop k).take 1 := by
  unfold cutV
  rw [HT.sIx_nat, show (k : Int) + 1 = ((k + 1 : Nat) : Int) by omega, HT.sIx_nat]
  by_cases h : k < xs.length
  · rw [Nat.min_eq_left (by omega), Nat.min_eq_left (by omega), Nat.add_sub_cancel_left]
  · have h1 : min k xs.length = xs.length := by omega
    have h2 : min (k + 1) xs.length = xs.length := by omega
    rw [h1, h2, Nat.sub_self, List.take_zero, List.drop_of_length_le (show xs.length ≤ k by omega)]
    rfl
theorem drop_take1 (L : List Int) (k : Nat) : (L.drop k).take 1 = L[k]?.toList := by
  by_cases h : k < L.length
  · rw [List.getElem?_eq_getElem h, List.drop_eq_getElem_cons h]
    rfl
  · rw [List.getElem?_eq_none (by omega), List.drop_of_length_le (by omega)]
    rfl
end El
namespace El
open PySem PySem.Spec PyProof.Rows L2
section
variable {X : Cx}
/-- the walk over a list -/
theorem gathers_list {pins : List (Addr × Obj)} {σ : L2.St} {H : Hp} {s : Shared} {a : Addr} {xs : List V} (I : Inv X pins σ H s) (h : SqL X.K H a xs) : xs.length ≤ sizeLine ∧ Gathers X s (.ref a) xs := by
  have ⟨us, r, ⟨o, n, at_a, is_list, _, data⟩, few⟩ := I.list h
  refine ⟨few, fun R go => wpAny_collect_seq a (.inl rfl) at_a is_list data (fun h' grown => ?_) ?_⟩
  · rw [List.toList_toArray]
    exact go us h' s.toks r grown
  · rw [List.size_toArray]
    exact r.length ▸ few
/-- a value that is an object's name, seen as ours -/
def asOurs : Value → V
  | .ref a => .ref a
  | _ => .non
/-- sorted(xs, reverse=b) of a list of pairs of ints -/
def rSortedPK (K : PySem.W.Frag) (b : Bool) : List V → List V → Hp → VK → Prop := fun vs zs H Q => ∃ (a : Addr) (xs : List V) (k : V → Int × Int), vs = [V.ref a] ∧ zs = [.bl b] ∧ SqL K H a xs ∧ (∀ x ∈ xs, ∃ t, x = V.ref t ∧ H t = some (.tup [.int (k x).1, .int (k x).2])) ∧
  ∀ ys p, SrtO.Srtd (ltP k) ys → ys.Perm xs → H p = none → Q (.ref p) (upd H p (.lst (if b = true then ys.reverse else ys)))
theorem cr_sortedPK {b : Bool} (_ : X.calm = true) : CallRK X (.builtin "sorted") [Str.ofString "reverse"] (rSortedPK X.K b) := by
  rintro pins s σ H _ _ us ws Q I one by_kw ⟨a, xs, k, rfl, rfl, here, pairs, q⟩
  obtain ⟨v, w, rfl, rfl, rfl, rfl⟩ : ∃ v w, us = [v] ∧ ws = [w] ∧ v = .ref a ∧ w = .bool b := by
    cases one with | cons e1 t1 => cases t1; cases by_kw with | cons e2 t2 => cases t2; exact ⟨_, _, rfl, rfl, e1, e2⟩
  have ⟨few, walk⟩ := gathers_list I here
  have known : ∀ {x : V} {u : Value}, x ∈ xs → RelV x u → asOurs u = x := fun {x u} m e => by
    have ⟨t, ex, _⟩ := pairs x m
    subst ex
    exact congrArg asOurs e
  refine sorted_gathered I few walk (SrtO.swo_lex fun u => k (asOurs u)) (fun us s' l two r J free => ?_) fun P l hP perm up free => ?_
  · refine SrtO.pairs_sortableO (k := fun u => k (asOurs u)) (Nat.lt_of_lt_of_le Nat.two_pos two) (fun u m => ?_) fun o at_l => ?_
    · obtain ⟨P, hP, rfl, rfl⟩ := partners_of r
      have ⟨⟨x, u⟩, mp, eu⟩ := List.mem_map.mp m
      subst eu
      have mx := List.mem_map_of_mem (f := Prod.fst) mp
      have ⟨t, ex, ht⟩ := pairs x mx
      have apart : t ≠ l := fun e => by rw [e, free] at ht; cases ht
      have ⟨_, vs, rv, o, at_t, is_tup, n, data⟩ := J.hok t _ ((upd_ne apart).trans ht)
      rw [known mx (hP _ mp)]
      cases rv with | cons e1 rv => cases rv with | cons e2 rv => cases rv; exact e1.elim fun t1 e1 => e2.elim fun t2 e2 => ⟨t, o, t1, t2, n, by have := hP _ mp; rw [show (x, u).1 = V.ref t from ex] at this; exact this, at_t, is_tup, by rw [data, e1, e2]⟩
    · have ⟨_, vs, e, _, there⟩ := J.hok l _ upd_same
      rw [there] at at_l
      cases at_l
      have differ : Value.type "list" ≠ Value.type "tuple" := by decide
      exact differ
  · have sorts : SrtO.Srtd (ltP k) (P.map Prod.fst) := by
      rw [SrtO.Srtd, List.pairwise_map] at up ⊢
      refine up.imp_of_mem fun {p p'} m m' h => ?_
      have on := fun {p : V × Value} (m : p ∈ P) => known (perm.mem_iff.mp (List.mem_map_of_mem (f := Prod.fst) m)) (hP p m)
      rw [on m, on m'] at h
      exact h
    exact q _ l sorts perm free
/-- sorted by age and patience, turned round: from the eldest on -/
theorem sorted_down {k : V → Int × Int} {ys xs : List V} {gs : List (Int × Int)} (f : Fit gs) (hx : xs.map k = gs) (hs : SrtO.Srtd (ltP k) ys) (hb : ys.Perm xs) : ys.reverse.map k = byAge gs := by
  refine byAge_of f ?_ ?_
  · rw [← hx]
    exact ((List.reverse_perm ys).trans hb).map k
  · rw [List.map_reverse, List.pairwise_reverse, List.pairwise_map]
    refine hs.imp fun {a b} h => ?_
    have h' : SrtO.lexB (k b) (k a) = false := h
    rw [SrtO.lexB_no] at h'
    omega
end
end El
namespace El
open PySem PySem.Spec PyProof.Rows L2
section
variable {X : Cx}
/-- len of a set of ints -/
theorem call_lenSI : CallR X (.builtin "len") (fun xs H Q => ∃ (a : Addr) (S : Int → Bool) (n : Nat), xs = [V.ref a] ∧ H a = some (SetO X.w a S n) ∧ n ≤ 100000 ∧ Q (.int n) H) := by
  intro pins s σ H xs us Q I r h
  obtain ⟨a, S, n, rfl, ha, hn, q⟩ := h
  rw [Vals.ref1 r]
  obtain ⟨o, es, ep, t, ho, hex, hd, _, _, _, hf, he⟩ := (setO_get I ha).setOf (P := X.prog)
  refine call_len_set ho hex hd hf (by rw [he]; exact Int.lt_of_le_of_lt (show (n : Int) ≤ 100000 by omega) (by decide)) ⟨.int n, H, I.tok _, ⟨_, by rw [he]⟩, q⟩
end
theorem piListK {X : Cx} {tg l : Expr} {tl : TE} (K : PySem.W.Frag) (hl : PE X l tl) (e : X.K = K := by rfl) : PI X tg l (iList K tl) := by
  subst e
  exact pi_list hl
/-- the outer walk of a comprehension with two fors, and the inner one -/
theorem out_it {J : It} {n : Nat} {G : Hp → Prop} {Y : Nat → Hp → V → Hp → Prop} (w : Walk J n G Y) {Qd : Hp → Prop} {H0 : Hp} {bd : (Hp → Prop) → V → Hp → Prop} (Pv : Nat → Hp → Prop) (h0 : Pv 0 H0) (hG : ∀ i H, i ≤ n → Pv i H → G H)
    (hs : ∀ i x H H', i < n → Pv i H → Y i H x H' → bd (Pv (i + 1)) x H') (hd : ∀ H, Pv n H → Qd H) :
    ∃ W : Nat → Nat → Hp → Prop, (∃ m, W 0 m H0) ∧ ∀ i m H, W i m H → (J.stop i H ∧ Qd H) ∨ (J.go i H ∧ ∃ Nx : Hp → Prop, (∀ H', Nx H' → ∃ m', m' < m ∧ W (i + 1) m' H') ∧ ∀ x H', J.yld i H x H' → bd Nx x H') := by
  refine ⟨fun i m H => m = n - i ∧ i ≤ n ∧ Pv i H, ⟨n, by simp, Nat.zero_le _, h0⟩, ?_⟩
  rintro i m H ⟨rfl, hi, p⟩
  have q := hG i H hi p
  by_cases hlt : i < n
  · exact .inr ⟨w.goes i H hlt q, Pv (i + 1), fun H' p' => ⟨n - (i + 1), by omega, rfl, hlt, p'⟩, fun x H' y => hs i x H H' hlt p (w.yields i H x H' hlt q y)⟩
  · have e : i = n := by omega
    subst e
    exact .inl ⟨w.stops H q, hd H p⟩
theorem cut_from (xs : List V) (j : Nat) : cutV xs (some (j : Int)) none = xs.drop j := by
  unfold cutV
  rw [HT.sIx_none, HT.sIx_nat]
  show (List.drop (min j xs.length) xs).take (xs.length - min j xs.length) = _
  by_cases h : j ≤ xs.length
  · rw [Nat.min_eq_left h, List.take_of_length_le (by rw [List.length_drop]; omega)]
  · rw [Nat.min_eq_right (by omega), List.drop_of_length_le (Nat.le_refl _), List.drop_of_length_le (show xs.length ≤ j by omega), List.take_nil]
/-- a list of lists of ints, read alone -/
structure RdAt (H : Hp) (o : Addr) (ts : List Addr) (rs : List (List Int)) : Prop where
  top : H o = some (.lst (ts.map V.ref))
  len : ts.length = rs.length
  at' : ∀ (i : Nat) (t : Addr) (r : List Int), ts[i]? = some t → rs[i]? = some r → H t = some (.lst (r.map V.int))
theorem RdAt.same {H H' : Hp} {a : Addr} {ts : List Addr} {rs : List (List Int)} (h : RdAt H a ts rs) (k : Same H H') : RdAt H' a ts rs :=
  ⟨k _ _ h.top, h.len, fun i t g e f => k _ _ (h.at' i t g e f)⟩
theorem RdAt.seq {K : PySem.W.Frag} {H : Hp} {a : Addr} {ts : List Addr} {rs : List (List Int)} (h : RdAt H a ts rs) : SqL K H a (ts.map V.ref) := SqL.of h.top
theorem RmsAt.rd {H : Hp} {B : Addr → Prop} {a : Addr} {ts : List Addr} {rs : List (List Int)} (h : RmsAt H B a ts rs) : RdAt H a ts rs := ⟨h.top, h.len, h.at'⟩
theorem RdAt.get {H : Hp} {a : Addr} {ts : List Addr} {rs : List (List Int)} (h : RdAt H a ts rs) {i : Nat} {x : V} (e : (ts.map V.ref)[i]? = some x) : ∃ t r, x = .ref t ∧ ts[i]? = some t ∧ rs[i]? = some r ∧ H t = some (.lst (r.map V.int)) := by
  obtain ⟨t, e1, rfl⟩ := refs_at e
  have hi := at_lt e1
  rw [h.len] at hi
  obtain ⟨g, e2⟩ := at_some hi
  exact ⟨t, g, rfl, e1, e2, h.at' i t g e1 e2⟩
theorem pks_get {gs : List (Int × Int)} (nd : (gs.map (·.1)).Nodup) {a : Int} (m : a ∈ gs.map (·.1)) : valV (pks gs) (Sum.inl a) = some (.int (pof gs a)) := by
  obtain ⟨g, hg, rfl⟩ := List.mem_map.mp m
  rw [pks_some nd hg, pof_is nd hg]
theorem dget_pof {H : Hp} {d : Addr} {gs : List (Int × Int)} (h : H d = some (.dK (pks gs))) (nd : (gs.map (·.1)).Nodup) {a : Int} (m : a ∈ gs.map (·.1)) : DGet H d (.int a) (some (.int (pof gs a))) := by
  have z := DGet.k (k := Sum.inl a) h
  rw [pks_get nd m] at z
  exact z
theorem take_snoc_flat {rs : List (List Int)} {i : Nat} {r : List Int} (e : rs[i]? = some r) : (rs.take (i + 1)).flatten = (rs.take i).flatten ++ r := by
  rw [take_snoc e, List.flatten_append, List.flatten_cons, List.flatten_nil, List.append_nil]
theorem flat_split {rs : List (List Int)} {i j : Nat} {r : List Int} {a : Int} (nd : rs.flatten.Nodup) (e : rs[i]? = some r) (e2 : r[j]? = some a) : a ∉ (rs.take i).flatten ++ r.take j := by
  have h1 : rs.flatten = (rs.take i).flatten ++ (r ++ (rs.drop (i + 1)).flatten) := by
    have hi := at_lt e
    have h2 : rs = rs.take i ++ r :: rs.drop (i + 1) := by
      have := List.getElem_cons_drop (as := rs) (i := i) hi
      rw [List.getElem?_eq_getElem hi] at e
      rw [Option.some.inj e] at this
      rw [this, List.take_append_drop]
    rw [congrArg List.flatten h2, List.flatten_append, List.flatten_cons]
  have h3 : r = r.take j ++ a :: r.drop (j + 1) := by
    have hj := at_lt e2
    have := List.getElem_cons_drop (as := r) (i := j) hj
    rw [List.getElem?_eq_getElem hj] at e2
    rw [Option.some.inj e2] at this
    rw [this, List.take_append_drop]
  rw [h1] at nd
  generalize (rs.take i).flatten = x at nd ⊢
  generalize (rs.drop (i + 1)).flatten = y at nd
  rw [h3] at nd
  obtain ⟨_, n2, n3⟩ := List.nodup_append.mp nd
  intro m
  rcases List.mem_append.mp m with m | m
  · exact n3 a m a (List.mem_append_left _ (List.mem_append_right _ List.mem_cons_self)) rfl
  · obtain ⟨n4, _, _⟩ := List.nodup_append.mp n2
    obtain ⟨_, _, n7⟩ := List.nodup_append.mp n4
    exact n7 a m a List.mem_cons_self rfl
theorem flat_mem {rs : List (List Int)} {i j : Nat} {r : List Int} {a : Int} (e : rs[i]? = some r) (e2 : r[j]? = some a) : a ∈ rs.flatten :=
  List.mem_flatten.mpr ⟨r, List.mem_of_getElem? e, List.mem_of_getElem? e2⟩
end El
namespace El
/-! ### in peace, by counting -/
theorem upIn_iff {pf : Int → Int} : ∀ {l : List Int} {k : Nat}, upIn pf l k = none ↔ ∀ (i : Nat) (a : Int), l[i]? = some a → ((i + k : Nat) : Int) ≤ pf a
  | [], _ => ⟨fun _ i a e => by simp at e, fun _ => rfl⟩
  | x :: l, k => by
    constructor
    · intro h
      unfold upIn at h
      by_cases q : pf x < (k : Int)
      · rw [if_pos q] at h
        cases h
      · rw [if_neg q] at h
        intro i a e
        cases i with
        | zero =>
          obtain rfl : x = a := Option.some.inj e
          omega
        | succ i =>
          have := (upIn_iff.mp h) i a (by simpa using e)
          omega
    · exact upIn_none
theorem upsetOf_iff {gs : List (Int × Int)} : ∀ {rs : List (List Int)} {k : Nat}, upsetOf gs rs k = none ↔ ∀ r ∈ rs, eldUp gs r = none
  | [], _ => ⟨fun _ r m => absurd m List.not_mem_nil, fun _ => rfl⟩
  | r :: rs, k => by
    constructor
    · intro h
      unfold upsetOf at h
      cases e : eldUp gs r with
      | some a => rw [e] at h; cases h
      | none =>
        rw [e] at h
        intro s m
        rcases List.mem_cons.mp m with rfl | m
        · exact e
        · exact (upsetOf_iff.mp h) s m
    · exact upsetOf_none
theorem above_ix : ∀ {l : List Int} {i : Nat} {a : Int}, l.Pairwise (· > ·) → l[i]? = some a → (l.filter fun b => decide (a < b)).length = i
  | [], i, a, _, e => by simp at e
  | x :: l, 0, a, h, e => by
    obtain rfl : x = a := Option.some.inj e
    obtain ⟨h1, _⟩ := List.pairwise_cons.mp h
    rw [List.filter_cons_of_neg (by simp), List.filter_eq_nil_iff.mpr fun b hb => by
      have := h1 b hb
      simp only [decide_eq_true_eq]
      omega]
    rfl
  | x :: l, i + 1, a, h, e => by
    obtain ⟨h1, h2⟩ := List.pairwise_cons.mp h
    have e' : l[i]? = some a := by simpa using e
    have := h1 a (List.mem_of_getElem? e')
    rw [List.filter_cons_of_pos (by simp only [decide_eq_true_eq]; omega), List.length_cons, above_ix h2 e']
def above (r : List Int) (a : Int) : List Int := r.filter fun b => decide (a < b)
theorem down_strict {r : List Int} (nd : r.Nodup) : (down r).Pairwise (· > ·) := by
  have h1 := down_sorted r
  have h2 : (down r).Nodup := ((down_perm r).nodup_iff).mpr nd
  have h3 := h1.and h2
  exact h3.imp fun {a b} h => by
    have := h.1
    have := h.2
    omega
theorem eldUp_iff {gs : List (Int × Int)} {r : List Int} (nd : r.Nodup) : eldUp gs r = none ↔ ∀ a ∈ r, ((above r a).length : Int) ≤ pof gs a := by
  have hl : ∀ a, (above r a).length = ((down r).filter fun b => decide (a < b)).length := fun a => (((down_perm r).filter _).length_eq).symm
  unfold eldUp
  rw [upIn_iff]
  constructor
  · intro h a m
    obtain ⟨i, e⟩ := List.mem_iff_getElem?.mp ((down_perm r).mem_iff.mpr m)
    have := h i a e
    rw [hl, above_ix (down_strict nd) e]
    omega
  · intro h i a e
    have := h a ((down_perm r).mem_iff.mp (List.mem_of_getElem? e))
    rw [hl, above_ix (down_strict nd) e] at this
    omega
theorem flat_nd {rs : List (List Int)} (nd : rs.flatten.Nodup) {r : List Int} (m : r ∈ rs) : r.Nodup := (List.pairwise_flatten.mp nd).1 r m
def full (rs : List (List Int)) : List (List Int) := rs.filter fun r => !r.isEmpty
def lensD (rs : List (List Int)) : List Int := (full rs).map fun r => (r.length : Int)
/-- in peace and as good as can be -/
def bestB (gs : List (Int × Int)) (rs : List (List Int)) : Bool := decide (upsetOf gs rs 0 = none) && decide (down (lensD rs) = (settle gs).map fun r => (r.length : Int))
end El
namespace El
open PySem PySem.Spec PyProof.Rows L2
section
variable {X : Cx}
theorem ptTruthK {a : Expr} {ta : TE} (K : PySem.W.Frag) (ha : PE X a ta) (he : ∀ whole, isTrue a X.env whole = (do let v ← whole; standAt a.pos; holding [v] (truthy v))) (e : X.K = K := by rfl) :
    PT X a (tTru K ta) := by
  subst e
  exact pt_truth ha he
/-! ### xs[::s], s 1 or -1 -/
def tStepL (K : PySem.W.Frag) (te ts : TE) : TE := fun σ H Q => te σ H fun x H1 => ts σ H1 fun y H2 => ∃ c, y = .int c ∧ ∃ a xs, x = .ref a ∧ (c = 1 ∨ c = -1) ∧ SqL K H2 a xs ∧ ∀ p, H2 p = none → Q (.ref p) (upd H2 p (.lst (if c = 1 then xs else xs.reverse)))
/-- what such a cut picks -/
theorem pick_way (us : List Value) {c : Int} (h : c = 1 ∨ c = -1) : slicePick us.toArray none none (some c) = (if c = 1 then us else us.reverse).toArray := by
  rcases h with rfl | rfl
  · show slicePick us.toArray none none none = _
    rw [slicePick_cut, HT.sIx_none, HT.sIx_none, List.drop_zero, Nat.sub_zero, List.take_length]
    rfl
  · exact PySem.W.krv_pick us.toArray
/-- a cut lies there that names its step alone -/
def StepAt (s : Shared) (i : Value) (c : Int) : Prop := ∃ p u, i = .ref p ∧ s.heap.IsSliceOf p .none .none (.int c u)
theorem step_made {st : Expr} {ts : TE} {p : Pos} {pins : List (Addr × Obj)} {σ : L2.St} {H : Hp} {s : Shared} {R : Value → Shared → Prop} {D : Int → Hp → Prop} (hs : PE X st ts) (I : Inv X pins σ H s)
    (h : ts σ H fun y H' => ∃ c, y = .int c ∧ D c H') (go : ∀ c H' i s', Inv X pins σ H' s' → StepAt s' i c → D c H' → R i s') : wpAny (model X.prog X.w) X.A (eval (.Slice none none (some st) p) X.env) R X.xe s := by
  refine wpAny_Slice (wpAny_pure (wpAny_pure (thn (hs.run pins s σ H _ I h) ?_)))
  rintro _ s' ⟨_, H', J, e, c, rfl, d⟩
  obtain ⟨u, rfl⟩ : ∃ u, _ = Value.int c u := e
  exact go c H' _ _ (J.kept (t' := s'.toks) fun _ _ => Heap.get?_push_of_some _) ⟨_, u, rfl, .new ..⟩ d
theorem list_cut {pins : List (Addr × Obj)} {σ : L2.St} {H : Hp} {s : Shared} {Q : VK} {a : Addr} {xs : List V} {i : Value} {c : Int} (I : Inv X pins σ H s) (here : SqL X.K H a xs) (cut : StepAt s i c) (h : c = 1 ∨ c = -1)
    (q : ∀ p, H p = none → Q (.ref p) (upd H p (.lst (if c = 1 then xs else xs.reverse)))) : wpAny (model X.prog X.w) X.A (getItem (.ref a) i) (EP X pins σ Q) X.xe s := by
  have ⟨us, r, at_a, few⟩ := I.list here
  have ⟨_, _, e, at_i⟩ := cut
  subst e
  have fits : us.toArray.size ≤ sizeLine := Nat.le_trans (Nat.le_of_eq (us.size_toArray.trans r.length.symm)) few
  have turned : Vals (if c = 1 then xs else xs.reverse) (if c = 1 then us else us.reverse) := by
    split
    · exact r
    · exact r.reverse
  have same : (if c = 1 then xs else xs.reverse).length = xs.length := by
    split
    · rfl
    · exact xs.length_reverse
  refine wpAny_getItem_list_slice at_a.isList at_i .none .none (.int c _) (fun z => by rcases h with rfl | rfl <;> cases z) ?_ fits
  rw [pick_way us h]
  have J := I.laid (a := s.heap.objs.size) (o := .lst (if c = 1 then xs else xs.reverse)) (t' := s.toks) (fun _ _ => Heap.get?_push_of_some _) (Nat.le_refl _) ⟨same ▸ few, _, 0, turned, Heap.get?_push_size _ rfl⟩
  exact ⟨.ref _, _, J, rfl, q _ (I.hok.fresh (Nat.le_refl _))⟩
theorem pe_stepL {e st : Expr} {te ts : TE} {p3 pos : Pos} (he : PE X e te) (hs : PE X st ts) : PE X (.Subscript e (.Slice none none (some st) p3) pos) (tStepL X.K te ts) where
  run pins s σ H Q I h := by
    refine Subscript_ (thn (he.run pins s σ H _ I h) ?_)
    rintro v s1 ⟨x, H1, J1, r, more⟩
    refine step_made hs J1 more ?_
    rintro c H2 i s2 J2 cut ⟨a, xs, rfl, way, here, q⟩
    cases r
    have ⟨_, _, at_a, _⟩ := J2.list here
    exact tail_any (ops := [.ref a, i]) at_a.isList.typeIs PySem.slot_list_getitem.lookup (list_cut J2 here cut way q) (by have ⟨_, _, e, _⟩ := cut; subst e; with_unfolding_all rfl)
end
theorem mergeK_pks {gs : List (Int × Int)} (nd : (gs.map (·.1)).Nodup) : mergeK [] (pks gs) = pks gs := by
  suffices h : ∀ (n : Nat), n ≤ gs.length → mergeK [] (pks (gs.take n)) = pks (gs.take n) by
    have := h gs.length (Nat.le_refl _)
    rw [take_full] at this
    exact this
  intro n
  induction n with
  | zero =>
    intro _
    rw [List.take_zero]
    rfl
  | succ n ih =>
    intro hn
    obtain ⟨g, eg⟩ := at_some hn
    have ht : (gs.take n).map (·.1) = (gs.map (·.1)).take n := List.map_take
    have no : g.1 ∉ (gs.take n).map (·.1) := fun m => by
      rw [ht] at m
      have e : (gs.map (·.1))[n]? = some g.1 := by rw [List.getElem?_map, eg]; rfl
      obtain ⟨i, hi⟩ := List.mem_iff_getElem?.mp m
      rw [List.getElem?_take] at hi
      split at hi
      · have := nd_ix nd hi e
        omega
      · cases hi
    rw [take_snoc eg]
    unfold mergeK at ih ⊢
    rw [pks_snoc, List.foldl_append, ih (by omega)]
    show putK (pks (gs.take n)) (Sum.inl g.1) (V.int g.2) = _
    rw [putK_snoc no, pks_snoc]
theorem GsAt.paired {K : PySem.W.Frag} {H : Hp} {B : Addr → Prop} {a : Addr} {ts : List Addr} {gs : List (Int × Int)} (h : GsAt H B a ts gs) : Paired (fun p kv => SqT K H p [kV kv.1, kv.2]) ts (pks gs) := by
  have hl := h.len
  have ha := h.at'
  clear h
  induction ts generalizing gs with
  | nil =>
    cases gs with
    | nil => exact .nil
    | cons g gs => simp at hl
  | cons t ts ih =>
    cases gs with
    | nil => simp at hl
    | cons g gs =>
      refine .cons (SqT.of (ha 0 t g rfl rfl)) (ih (gs := gs) (by simpa using hl) fun i t' g' e1 e2 => ha (i + 1) t' g' (by simpa using e1) (by simpa using e2))
theorem RdAt.of {H : Hp} {a : Addr} {ts : List Addr} {rs : List (List Int)} (h : RdAt H a ts rs) {i : Nat} {r : List Int} (e : rs[i]? = some r) : ∃ t, ts[i]? = some t ∧ H t = some (.lst (r.map V.int)) := by
  have hi := at_lt e
  rw [← h.len] at hi
  obtain ⟨t, e2⟩ := at_some hi
  exact ⟨t, e2, h.at' i t r e2 e⟩
theorem flat_in {rs : List (List Int)} {r : List Int} (m : r ∈ rs) : r.length ≤ rs.flatten.length := room_le_flat rs r m
theorem full_snoc {rs : List (List Int)} {i : Nat} {r : List Int} (e : rs[i]? = some r) : lensD (rs.take (i + 1)) = if r = [] then lensD (rs.take i) else lensD (rs.take i) ++ [(r.length : Int)] := by
  unfold lensD full
  rw [take_snoc e, List.filter_append]
  cases r with
  | nil => rw [List.filter_cons_of_neg (by simp), List.filter_nil, List.append_nil, if_pos rfl]
  | cons x r => rw [List.filter_cons_of_pos (by simp), List.filter_nil, List.map_append, if_neg (by simp)]; rfl
theorem lensD_len (rs : List (List Int)) : (lensD rs).length ≤ rs.length := by
  unfold lensD full
  rw [List.length_map]
  exact List.length_filter_le _ _
end El
namespace El
open PySem PySem.Spec PyProof.Rows L2
/-- [f(x) for x in L], ints to ints -/
theorem lc_ints {K : PySem.W.Frag} {a D : Addr} {L : List Int} {i : Nat} {te : TE} {vs : List Nat} {σ : L2.St} {H1 : Hp} {Qd : Hp → Prop} (f : Int → Int) (hL : H1 a = some (.lst (L.map V.int))) (hD : H1 D = none) (hl : L.length ≤ 1000)
    (he : ∀ (k : Nat) (z : Int) (H' : Hp), L[k]? = some z → Same H1 H' → ∀ Q : VK, Q (.int (f z)) H' → te ((wipe σ vs).set i (some (.int z))) H' Q) (hw : ∀ z : Int, wipe ((wipe σ vs).set i (some (.int z))) vs = wipe σ vs)
    (hd : ∀ H2, Same H1 H2 → H2 D = some (.lst ((L.map f).map V.int)) → Qd H2) :
    ∃ W : Nat → Nat → Hp → Prop, (∃ m, W 0 m (upd H1 D (.lst []))) ∧ ∀ k m H, W k m H →
      ((Itl K a).stop k H ∧ Qd H) ∨ ((Itl K a).go k H ∧ ∃ Nx : Hp → Prop, (∀ H', Nx H' → ∃ m', m' < m ∧ W (k + 1) m' H') ∧ ∀ x H', (Itl K a).yld k H x H' → gName i x (wipe σ vs) H' fun σ2 H2 => wipe σ2 vs = wipe σ vs ∧ tYes σ2 H2 fun b H3 =>
        if b = true then te σ2 H3 fun y H4 => ∃ acc, H4 D = some (.lst acc) ∧ acc.length < sizeLine ∧ Nx (upd H4 D (.lst (acc ++ [y]))) else Nx H3) := by
  refine lc_it (walk_list (xs := L.map V.int)) (fun k H2 => Same H1 H2 ∧ H2 D = some (.lst (((L.take k).map f).map V.int))) ⟨same_new hD, upd_same⟩ (fun k H2 _ hW => ?_) (fun k x H2 H3 hk hW hY => ?_) (fun H2 hW => ?_)
  · exact SqL.of (hW.1 _ _ hL)
  · obtain ⟨sm, e⟩ := hW
    obtain ⟨rfl, hx⟩ := hY
    obtain ⟨z, ez, rfl⟩ := ints_at hx
    refine ⟨hw z, he k z H3 ez sm _ ⟨_, e, ils (by rw [List.length_map, List.length_map, List.length_take]; omega), Same.mut sm hD, ?_⟩⟩
    rw [upd_same, take_snoc ez, List.map_append, List.map_append]
    rfl
  · obtain ⟨sm, e⟩ := hW
    rw [List.length_map, take_full] at e
    exact hd H2 sm e
/-- [f(room) for room in rs], lists of ints to ints -/
theorem lc_rows {K : PySem.W.Frag} {a D : Addr} {us : List Addr} {rs : List (List Int)} {i : Nat} {te : TE} {vs : List Nat} {σ : L2.St} {H1 : Hp} {Qd : Hp → Prop} (f : List Int → Int) (hR : RdAt H1 a us rs) (hD : H1 D = none) (hl : rs.length ≤ 1000)
    (he : ∀ (t : Addr) (r : List Int) (H' : Hp), r ∈ rs → H' t = some (.lst (r.map V.int)) → ∀ Q : VK, Q (.int (f r)) H' → te ((wipe σ vs).set i (some (.ref t))) H' Q) (hw : ∀ t : Addr, wipe ((wipe σ vs).set i (some (.ref t))) vs = wipe σ vs)
    (hd : ∀ H2, Same H1 H2 → H2 D = some (.lst ((rs.map f).map V.int)) → Qd H2) :
    ∃ W : Nat → Nat → Hp → Prop, (∃ m, W 0 m (upd H1 D (.lst []))) ∧ ∀ k m H, W k m H →
      ((Itl K a).stop k H ∧ Qd H) ∨ ((Itl K a).go k H ∧ ∃ Nx : Hp → Prop, (∀ H', Nx H' → ∃ m', m' < m ∧ W (k + 1) m' H') ∧ ∀ x H', (Itl K a).yld k H x H' → gName i x (wipe σ vs) H' fun σ2 H2 => wipe σ2 vs = wipe σ vs ∧ tYes σ2 H2 fun b H3 =>
        if b = true then te σ2 H3 fun y H4 => ∃ acc, H4 D = some (.lst acc) ∧ acc.length < sizeLine ∧ Nx (upd H4 D (.lst (acc ++ [y]))) else Nx H3) := by
  refine lc_it (walk_list (xs := us.map V.ref)) (fun k H2 => Same H1 H2 ∧ H2 D = some (.lst (((rs.take k).map f).map V.int))) ⟨same_new hD, upd_same⟩ (fun k H2 _ hW => ?_) (fun k x H2 H3 hk hW hY => ?_) (fun H2 hW => ?_)
  · exact (hR.same hW.1).seq
  · obtain ⟨sm, e⟩ := hW
    obtain ⟨rfl, hx⟩ := hY
    obtain ⟨t, r, rfl, _, er, et⟩ := (hR.same sm).get hx
    refine ⟨hw t, he t r H3 (List.mem_of_getElem? er) et _ ⟨_, e, ils (by rw [List.length_map, List.length_map, List.length_take]; omega), Same.mut sm hD, ?_⟩⟩
    rw [upd_same, take_snoc er, List.map_append, List.map_append]
    rfl
  · obtain ⟨sm, e⟩ := hW
    rw [List.length_map, hR.len, take_full] at e
    exact hd H2 sm e
end El
namespace El
open PySem PySem.Spec PyProof.Rows L2
/-- [f(a, b) for a, b in gs], pairs of ints to ints -/
theorem lc_prs {K : PySem.W.Frag} {B : Addr → Prop} {a D : Addr} {ts : List Addr} {gs : List (Int × Int)} {i j : Nat} {te : TE} {vs : List Nat} {σ : L2.St} {H1 : Hp} {Qd : Hp → Prop} (f : Int × Int → Int) (hG : GsAt H1 B a ts gs) (hD : H1 D = none) (hl : gs.length ≤ 1000)
    (he : ∀ (z : Int × Int) (H' : Hp), z ∈ gs → Same H1 H' → ∀ Q : VK, Q (.int (f z)) H' → te (((wipe σ vs).set i (some (.int z.1))).set j (some (.int z.2))) H' Q) (hw : ∀ z : Int × Int, wipe (((wipe σ vs).set i (some (.int z.1))).set j (some (.int z.2))) vs = wipe σ vs)
    (hd : ∀ H2, Same H1 H2 → H2 D = some (.lst ((gs.map f).map V.int)) → Qd H2) :
    ∃ W : Nat → Nat → Hp → Prop, (∃ m, W 0 m (upd H1 D (.lst []))) ∧ ∀ k m H, W k m H →
      ((Itl K a).stop k H ∧ Qd H) ∨ ((Itl K a).go k H ∧ ∃ Nx : Hp → Prop, (∀ H', Nx H' → ∃ m', m' < m ∧ W (k + 1) m' H') ∧ ∀ x H', (Itl K a).yld k H x H' → gTup K 2 (gCons (gName i) (gCons (gName j) gNil)) x (wipe σ vs) H' fun σ2 H2 => wipe σ2 vs = wipe σ vs ∧ tYes σ2 H2 fun b H3 =>
        if b = true then te σ2 H3 fun y H4 => ∃ acc, H4 D = some (.lst acc) ∧ acc.length < sizeLine ∧ Nx (upd H4 D (.lst (acc ++ [y]))) else Nx H3) := by
  refine lc_it (walk_list (xs := ts.map V.ref)) (fun k H2 => Same H1 H2 ∧ H2 D = some (.lst (((gs.take k).map f).map V.int))) ⟨same_new hD, upd_same⟩ (fun k H2 _ hW => ?_) (fun k x H2 H3 hk hW hY => ?_) (fun H2 hW => ?_)
  · exact (hG.same hW.1).seq
  · obtain ⟨sm, e⟩ := hW
    obtain ⟨rfl, hx⟩ := hY
    obtain ⟨t, z, rfl, ez, et⟩ := (hG.same sm).get hx
    refine ⟨t, _, rfl, SqT.of et, rfl, .int z.1, _, rfl, .int z.2, _, rfl, rfl, ?_⟩
    refine ⟨hw z, he z H3 (List.mem_of_getElem? ez) sm _ ⟨_, e, ils (by rw [List.length_map, List.length_map, List.length_take]; omega), Same.mut sm hD, ?_⟩⟩
    rw [upd_same, take_snoc ez, List.map_append, List.map_append]
    rfl
  · obtain ⟨sm, e⟩ := hW
    rw [List.length_map, hG.len, take_full] at e
    exact hd H2 sm e
theorem GsAt.top' {H : Hp} {B : Addr → Prop} {a : Addr} {ts : List Addr} {gs : List (Int × Int)} (h : GsAt H B a ts gs) {b : Addr} (e : H b = some (.lst (ts.map V.ref))) : GsAt H (fun _ => True) b ts gs := ⟨e, trivial, h.len, h.at', fun _ _ => trivial⟩
/-- a pair of a list of pairs, by its place -/
theorem GsAt.at_ {H : Hp} {B : Addr → Prop} {a : Addr} {ts : List Addr} {gs : List (Int × Int)} (h : GsAt H B a ts gs) {i : Nat} {g : Int × Int} (e : gs[i]? = some g) : ∃ t, (ts.map V.ref)[i]? = some (.ref t) ∧ H t = some (.tup [.int g.1, .int g.2]) := by
  have hl := at_lt e
  rw [← h.len] at hl
  obtain ⟨t, e2⟩ := at_some hl
  exact ⟨t, by rw [List.getElem?_map, e2]; rfl, h.at' i t g e2 e⟩
theorem pick2 {P : Int → Prop} {a b r : Int} (h0 : 0 ≤ r) (h1 : r < 2) (pa : P a) (pb : P b) : ∃ v : Int, atI [V.int a, .int b] r = some (.int v) ∧ P v := by
  obtain ⟨v, hv, mv⟩ := at_pick (xs := [V.int a, .int b]) h0 h1
  rcases List.mem_cons.mp mv with rfl | mv
  · exact ⟨_, hv, pa⟩
  · obtain rfl := List.mem_singleton.mp mv
    exact ⟨_, hv, pb⟩
theorem pick3 {P : Int → Prop} {a b c r : Int} (h0 : 0 ≤ r) (h1 : r < 3) (pa : P a) (pb : P b) (pc : P c) : ∃ v : Int, atI [V.int a, .int b, .int c] r = some (.int v) ∧ P v := by
  obtain ⟨v, hv, mv⟩ := at_pick (xs := [V.int a, .int b, .int c]) h0 h1
  rcases List.mem_cons.mp mv with rfl | mv
  · exact ⟨_, hv, pa⟩
  rcases List.mem_cons.mp mv with rfl | mv
  · exact ⟨_, hv, pb⟩
  · obtain rfl := List.mem_singleton.mp mv
    exact ⟨_, hv, pc⟩
theorem pick4 {P : Int → Prop} {a b c d r : Int} (h0 : 0 ≤ r) (h1 : r < 4) (pa : P a) (pb : P b) (pc : P c) (pd : P d) : ∃ v : Int, atI [V.int a, .int b, .int c, .int d] r = some (.int v) ∧ P v := by
  obtain ⟨v, hv, mv⟩ := at_pick (xs := [V.int a, .int b, .int c, .int d]) h0 h1
  rcases List.mem_cons.mp mv with rfl | mv
  · exact ⟨_, hv, pa⟩
  rcases List.mem_cons.mp mv with rfl | mv
  · exact ⟨_, hv, pb⟩
  rcases List.mem_cons.mp mv with rfl | mv
  · exact ⟨_, hv, pc⟩
  · obtain rfl := List.mem_singleton.mp mv
    exact ⟨_, hv, pd⟩
theorem pickL {P : Int → Prop} {L : List Int} {r : Int} (h0 : 0 ≤ r) (h1 : r < L.length) (p : ∀ x ∈ L, P x) : ∃ v : Int, atI (L.map V.int) r = some (.int v) ∧ P v := by
  obtain ⟨v, hv, mv⟩ := at_pick (xs := L.map V.int) h0 (by rw [List.length_map]; exact h1)
  obtain ⟨x, mx, rfl⟩ := List.mem_map.mp mv
  exact ⟨x, hv, p x mx⟩
/-- pairs that stand at these, whatever list tells them -/
structure Prs (H : Hp) (ts : List Addr) (gs : List (Int × Int)) : Prop where
  len : ts.length = gs.length
  at' : ∀ (i : Nat) (t : Addr) (g : Int × Int), ts[i]? = some t → gs[i]? = some g → H t = some (.tup [.int g.1, .int g.2])
theorem GsAt.pr {H : Hp} {B : Addr → Prop} {a : Addr} {ts : List Addr} {gs : List (Int × Int)} (h : GsAt H B a ts gs) : Prs H ts gs := ⟨h.len, h.at'⟩
theorem Prs.gs {H : Hp} {a : Addr} {ts : List Addr} {gs : List (Int × Int)} (h : Prs H ts gs) (e : H a = some (.lst (ts.map V.ref))) : GsAt H (fun _ => True) a ts gs := ⟨e, trivial, h.len, h.at', fun _ _ => trivial⟩
theorem Prs.same {H H' : Hp} {ts : List Addr} {gs : List (Int × Int)} (h : Prs H ts gs) (k : Same H H') : Prs H' ts gs := ⟨h.len, fun i t g e f => k _ _ (h.at' i t g e f)⟩
theorem Prs.nil {H : Hp} : Prs H [] [] := ⟨rfl, fun i t g e _ => by simp at e⟩
theorem Prs.cons {H : Hp} {t : Addr} {g : Int × Int} {ts : List Addr} {gs : List (Int × Int)} (e : H t = some (.tup [.int g.1, .int g.2])) (h : Prs H ts gs) : Prs H (t :: ts) (g :: gs) := by
  refine ⟨by rw [List.length_cons, List.length_cons, h.len], fun i u x e1 e2 => ?_⟩
  cases i with
  | zero =>
    obtain rfl : t = u := Option.some.inj e1
    obtain rfl : g = x := Option.some.inj e2
    exact e
  | succ i => exact h.at' i u x (by simpa using e1) (by simpa using e2)
theorem Prs.cat {H : Hp} {ts us : List Addr} {gs hs : List (Int × Int)} (h : Prs H ts gs) (k : Prs H us hs) : Prs H (ts ++ us) (gs ++ hs) := by
  refine ⟨by rw [List.length_append, List.length_append, h.len, k.len], fun i t r e1 e2 => ?_⟩
  by_cases hi : i < ts.length
  · rw [List.getElem?_append_left hi] at e1
    rw [List.getElem?_append_left (by rw [← h.len]; exact hi)] at e2
    exact h.at' i t r e1 e2
  · rw [List.getElem?_append_right (by omega)] at e1
    rw [List.getElem?_append_right (by rw [← h.len]; omega), ← h.len] at e2
    exact k.at' _ t r e1 e2
theorem Prs.take {H : Hp} {ts : List Addr} {gs : List (Int × Int)} (h : Prs H ts gs) (n : Nat) : Prs H (ts.take n) (gs.take n) := by
  refine ⟨by rw [List.length_take, List.length_take, h.len], fun i t r e1 e2 => ?_⟩
  rw [List.getElem?_take] at e1 e2
  split at e1
  · rename_i hi
    rw [if_pos hi] at e2
    exact h.at' i t r e1 e2
  · cases e1
theorem Prs.drop {H : Hp} {ts : List Addr} {gs : List (Int × Int)} (h : Prs H ts gs) (n : Nat) : Prs H (ts.drop n) (gs.drop n) := by
  refine ⟨by rw [List.length_drop, List.length_drop, h.len], fun i t r e1 e2 => ?_⟩
  rw [List.getElem?_drop] at e1 e2
  exact h.at' _ t r e1 e2
theorem cutFrom (xs : List V) (j : Nat) : cutV xs (some (j : Int)) none = xs.drop j := by
  unfold cutV
  rw [HT.sIx_none, HT.sIx_nat]
  show (List.drop (min j xs.length) xs).take (xs.length - min j xs.length) = _
  by_cases h : j ≤ xs.length
  · rw [Nat.min_eq_left h, List.take_of_length_le (by rw [List.length_drop]; omega)]
  · rw [Nat.min_eq_right (by omega), List.drop_of_length_le (Nat.le_refl _), List.drop_of_length_le (show xs.length ≤ j by omega), List.take_nil]
theorem iteX {c : Bool} {A B : Prop} (hc : c = false) (h : B) : if c = true then A else B := by
  rw [hc]
  exact iteF h
theorem nd_self (x : V) : (!decide (x = x)) = false := by rw [decide_eq_true rfl]; rfl
theorem log2_lt {x : Int} {k : Nat} (h0 : 0 ≤ x) (h1 : x < 2 ^ k) (hk : 0 < k) : x.natAbs.log2 < k := by
  by_cases h4 : x.natAbs = 0
  · rw [h4]; exact Nat.lt_of_le_of_lt (by decide) hk
  · refine (Nat.log2_lt h4).mpr ?_
    have : ((x.natAbs : Nat) : Int) < ((2 ^ k : Nat) : Int) := by
      rw [show ((x.natAbs : Nat) : Int) = x by omega]
      exact_mod_cast h1
    exact_mod_cast this
theorem part_at {gs : List (Int × Int)} {i : Nat} {g : Int × Int} (e : gs[i]? = some g) : gs = gs.take i ++ [g] ++ gs.drop (i + 1) := by
  have hi := at_lt e
  have h2 := List.getElem_cons_drop (as := gs) (i := i) hi
  rw [List.getElem?_eq_getElem hi] at e
  rw [Option.some.inj e] at h2
  rw [List.append_assoc]
  show gs = gs.take i ++ (g :: gs.drop (i + 1))
  rw [h2, List.take_append_drop]
theorem rg0 {i : Nat} {x : V} (h : x = V.int (0 + (i : Int))) : x = V.int (i : Int) := by
  rw [h, Int.zero_add]
end El
namespace El
open PySem PySem.Spec PyProof.Rows L2
theorem RmsAt.addN {H : Hp} {B : Addr → Prop} {o u : Addr} {ts : List Addr} {rs : List (List Int)} {r : List Int} (h : RmsAt H B o ts rs) (e : H u = some (.lst (r.map V.int))) (bu : B u) (hu : u ∉ ts) (uo : u ≠ o) :
    RmsAt (upd H o (.lst (ts.map V.ref ++ [.ref u]))) B o (ts ++ [u]) (rs ++ [r]) := by
  have no : ∀ t ∈ ts, t ≠ o := fun t m z => h.no (z ▸ m)
  refine ⟨by rw [upd_same, List.map_append]; rfl, h.bo, ?_, ?_, ?_, fun i t r' e1 e2 => ?_, fun t m => ?_⟩
  · rw [List.nodup_append]
    refine ⟨h.nd, by simp, fun a m b mb => ?_⟩
    rw [List.mem_singleton.mp mb]
    exact fun z => hu (z ▸ m)
  · intro m
    rcases List.mem_append.mp m with m | m
    · exact h.no m
    · exact uo (List.mem_singleton.mp m).symm
  · rw [List.length_append, List.length_append, h.len]
    rfl
  · by_cases hi : i < ts.length
    · rw [List.getElem?_append_left hi] at e1
      rw [List.getElem?_append_left (by rw [← h.len]; exact hi)] at e2
      rw [upd_ne (no t (List.mem_of_getElem? e1))]
      exact h.at' i t r' e1 e2
    · have hi2 := at_lt e1
      rw [List.length_append, List.length_singleton] at hi2
      have : i = ts.length := by omega
      subst this
      rw [List.getElem?_append_right (Nat.le_refl _), Nat.sub_self] at e1
      rw [h.len, List.getElem?_append_right (Nat.le_refl _), Nat.sub_self] at e2
      obtain rfl := Option.some.inj e1
      obtain rfl := Option.some.inj e2
      rw [upd_ne uo]
      exact e
  · rcases List.mem_append.mp m with m | m
    · exact h.b t m
    · rw [List.mem_singleton.mp m]
      exact bu
theorem GsAt.sortedN {H H' : Hp} {B : Addr → Prop} {a p : Addr} {ts : List Addr} {gs : List (Int × Int)} {zs : List V} (h : GsAt H B a ts gs) (k : Same H H') (pm : zs.Perm (ts.map V.ref)) (hz : zs.map (prOf H) = byAge gs) (e : H' p = some (.lst zs)) : ∃ us, GsAt H' (fun _ => True) p us (byAge gs) ∧ zs = us.map V.ref ∧ ∀ u ∈ us, u ∈ ts := by
  have : ∃ us : List Addr, zs = us.map V.ref ∧ ∀ u ∈ us, u ∈ ts := by
    have hm : ∀ z ∈ zs, ∃ t, z = V.ref t ∧ t ∈ ts := fun z m => by
      obtain ⟨t, mt, rfl⟩ := List.mem_map.mp (pm.mem_iff.mp m)
      exact ⟨t, rfl, mt⟩
    clear pm hz e
    induction zs with
    | nil => exact ⟨[], rfl, fun u m => by simp at m⟩
    | cons z zs ih =>
      obtain ⟨t, rfl, mt⟩ := hm z List.mem_cons_self
      obtain ⟨us, rfl, hu⟩ := ih fun y m => hm y (List.mem_cons_of_mem _ m)
      exact ⟨t :: us, rfl, fun u m => by
        rcases List.mem_cons.mp m with rfl | m
        · exact mt
        · exact hu u m⟩
  obtain ⟨us, rfl, hu⟩ := this
  refine ⟨us, ⟨e, trivial, ?_, fun i t g e1 e2 => ?_, fun _ _ => trivial⟩, rfl, hu⟩
  · have := congrArg List.length hz
    rw [List.length_map, List.length_map] at this
    exact this
  · have m := h.mem (.ref t) (pm.mem_iff.mp (List.mem_map.mpr ⟨t, List.mem_of_getElem? e1, rfl⟩))
    obtain ⟨t', et, e3⟩ := m
    injection et with et
    subst et
    have : prOf H (.ref t) = g := by
      have h2 := congrArg (fun l => l[i]?) hz
      rw [List.getElem?_map, List.getElem?_map, e1, e2] at h2
      exact Option.some.inj h2
    rw [this] at e3
    exact k _ _ e3
theorem iteTa {c : Bool} {A B : Prop} (hc : c = true) (h : A) : if c = true then A else B := by rw [if_pos hc]; exact h
end El
namespace El
open PySem PySem.Spec PyProof.Rows L2
def topS (i : Nat) : Stmt := PySem.Challenge.pw_elderinn_k26_whole_more_patience_fuller.main.body.getD i (.Pass ⟨0, 0, 0, 0⟩)
end El
namespace El
/-! ### crowds: what rooms become when so many of the same patience come -/
/-- one comes who bears p -/
def sit (p : Int) : List Int → List Int
  | [] => [1]
  | s :: L => if s ≤ p then (s + 1) :: L else s :: sit p L
def sitN (p : Int) : Nat → List Int → List Int
  | 0, L => L
  | n + 1, L => sitN p n (sit p L)
def plc (z p : Int) : Int := max 0 (p + 1 - z)
/-- so many fill room after room -/
def pour (p : Int) : Int → List Int → List Int
  | _, [] => []
  | n, s :: L => (s + min n (plc s p)) :: pour p (n - min n (plc s p)) L
def ex (R : List (Int × Int)) : List Int := R.flatMap fun r => List.replicate r.2.toNat r.1
def grownR (z c p k : Int) : List (Int × Int) := if k = 0 then [(z, c)] else if k % plc z p = 0 then [(p + 1, k / plc z p), (z, c - k / plc z p)] else [(p + 1, k / plc z p), (z + k % plc z p, 1), (z, c - k / plc z p - 1)]
theorem plc_nn (z p : Int) : 0 ≤ plc z p := by
  unfold plc
  omega
theorem pour_0 (p : Int) : ∀ X : List Int, pour p 0 X = X
  | [] => rfl
  | s :: L => by
    have := plc_nn s p
    rw [pour, show min 0 (plc s p) = 0 by omega, show (0 : Int) - 0 = 0 from rfl, pour_0 p L, Int.add_zero]
theorem pour_step {p : Int} : ∀ {X : List Int} {n : Int}, 0 ≤ n → (∃ s ∈ X, s ≤ p) → pour p (n + 1) X = pour p n (sit p X)
  | [], _, _, h => by
    obtain ⟨_, m, _⟩ := h
    cases m
  | s :: L, n, hn, h => by
    unfold sit
    by_cases hs : s ≤ p
    · rw [if_pos hs, pour, pour]
      have e1 : plc s p = p + 1 - s := by
        unfold plc
        omega
      have e2 : plc (s + 1) p = p - s := by
        unfold plc
        omega
      rw [e1, e2, show s + min (n + 1) (p + 1 - s) = s + 1 + min n (p - s) by omega, show n + 1 - min (n + 1) (p + 1 - s) = n - min n (p - s) by omega]
    · rw [if_neg hs, pour, pour]
      have e1 : plc s p = 0 := by
        unfold plc
        omega
      obtain ⟨y, m, hy⟩ := h
      have m' : y ∈ L := by
        rcases List.mem_cons.mp m with z | z
        · exact absurd (z ▸ hy) hs
        · exact z
      rw [e1, show min (n + 1) 0 = 0 by omega, show min n 0 = 0 by omega, show n + 1 - 0 = n + 1 by omega, show n - 0 = n by omega, pour_step hn ⟨y, m', hy⟩]
theorem sit_pad {p : Int} (hp : 0 ≤ p) (m : Nat) : ∀ L : List Int, ∃ m' : Nat, m ≤ m' ∧ sit p (L ++ List.replicate (m + 1) 0) = sit p L ++ List.replicate m' 0
  | [] => ⟨m, Nat.le_refl _, by
    rw [List.nil_append, List.replicate_succ]
    unfold sit
    rw [if_pos hp]
    rfl⟩
  | s :: L => by
    rw [List.cons_append]
    unfold sit
    by_cases hs : s ≤ p
    · rw [if_pos hs, if_pos hs]
      exact ⟨m + 1, Nat.le_succ _, rfl⟩
    · rw [if_neg hs, if_neg hs]
      obtain ⟨m', h1, h2⟩ := sit_pad hp m L
      exact ⟨m', h1, by rw [h2]; rfl⟩
def pos (X : List Int) : List Int := X.filter fun s => decide (0 < s)
theorem pos_all {L : List Int} (h : ∀ s ∈ L, 0 < s) : pos L = L := List.filter_eq_self.mpr fun s m => decide_eq_true (h s m)
theorem pos_pad {L : List Int} (h : ∀ s ∈ L, 0 < s) (m : Nat) : pos (L ++ List.replicate m 0) = L := by
  unfold pos
  rw [List.filter_append]
  rw [show L.filter (fun s => decide (0 < s)) = L from pos_all h]
  rw [List.filter_eq_nil_iff.mpr fun s ms => by rw [(List.mem_replicate.mp ms).2]; decide, List.append_nil]
theorem sit_pos {p : Int} : ∀ {L : List Int}, (∀ s ∈ L, 0 < s) → ∀ s ∈ sit p L, 0 < s
  | [], _, s, m => by
    rw [List.mem_singleton.mp m]
    decide
  | x :: L, h, s, m => by
    unfold sit at m
    have hx := h x List.mem_cons_self
    by_cases c : x ≤ p
    · rw [if_pos c] at m
      rcases List.mem_cons.mp m with z | z
      · omega
      · exact h s (List.mem_cons_of_mem _ z)
    · rw [if_neg c] at m
      rcases List.mem_cons.mp m with z | z
      · omega
      · exact sit_pos (fun y my => h y (List.mem_cons_of_mem _ my)) s z
theorem sitN_pos {p : Int} : ∀ {n : Nat} {L : List Int}, (∀ s ∈ L, 0 < s) → ∀ s ∈ sitN p n L, 0 < s
  | 0, _, h => h
  | n + 1, L, h => sitN_pos (n := n) (L := sit p L) (sit_pos h)
theorem pour_sit {p : Int} (hp : 0 ≤ p) : ∀ {n m : Nat} {L : List Int}, n ≤ m → (∀ s ∈ L, 0 < s) → pos (pour p n (L ++ List.replicate m 0)) = sitN p n L
  | 0, m, L, _, h => by
    rw [show ((0 : Nat) : Int) = 0 from rfl, pour_0, pos_pad h]
    rfl
  | n + 1, m, L, hm, h => by
    obtain ⟨k, rfl⟩ : ∃ k, m = k + 1 := ⟨m - 1, by omega⟩
    rw [show ((n + 1 : Nat) : Int) = (n : Int) + 1 from rfl, pour_step (by omega) ⟨0, List.mem_append_right _ (List.mem_replicate.mpr ⟨by omega, rfl⟩), hp⟩]
    obtain ⟨m', h1, h2⟩ := sit_pad hp k L
    rw [h2, pour_sit hp (by omega) (sit_pos h)]
    rfl
/-- from the fullest on -/
def Dn (L : List Int) : Prop := L.Pairwise fun a b => b ≤ a
theorem sit_mem {p : Int} : ∀ {L : List Int} {y : Int}, y ∈ sit p L → y ∈ L ∨ y ≤ p + 1 ∨ y = 1
  | [], y, m => .inr (.inr (List.mem_singleton.mp m))
  | s :: L, y, m => by
    unfold sit at m
    by_cases c : s ≤ p
    · rw [if_pos c] at m
      rcases List.mem_cons.mp m with z | z
      · exact .inr (.inl (by omega))
      · exact .inl (List.mem_cons_of_mem _ z)
    · rw [if_neg c] at m
      rcases List.mem_cons.mp m with z | z
      · exact .inl (z ▸ List.mem_cons_self)
      · exact (sit_mem z).elim (fun w => .inl (List.mem_cons_of_mem _ w)) .inr
theorem sit_dn {p : Int} (hp : 0 ≤ p) : ∀ {L : List Int}, Dn L → Dn (sit p L)
  | [], _ => List.pairwise_singleton _ _
  | s :: L, h => by
    have ⟨h1, h2⟩ := List.pairwise_cons.mp h
    unfold sit
    by_cases c : s ≤ p
    · rw [if_pos c]
      exact List.pairwise_cons.mpr ⟨fun y m => by have := h1 y m; omega, h2⟩
    · rw [if_neg c]
      refine List.pairwise_cons.mpr ⟨fun y m => ?_, sit_dn hp h2⟩
      rcases sit_mem m with z | z | z
      · exact h1 y z
      · omega
      · omega
theorem sitN_dn {p : Int} (hp : 0 ≤ p) : ∀ {n : Nat} {L : List Int}, Dn L → Dn (sitN p n L)
  | 0, _, h => h
  | n + 1, L, h => sitN_dn hp (n := n) (L := sit p L) (sit_dn hp h)
theorem ex_nil : ex [] = [] := rfl
theorem ex_cons (r : Int × Int) (R : List (Int × Int)) : ex (r :: R) = List.replicate r.2.toNat r.1 ++ ex R := List.flatMap_cons
theorem ex_append (R S : List (Int × Int)) : ex (R ++ S) = ex R ++ ex S := List.flatMap_append
theorem grown_more {z c p k : Int} (hb : 0 < plc z p) (hk : 0 ≤ k) (hc : 0 ≤ c) (h : k ≤ c * plc z p) : ex (grownR z (c + 1) p (k + plc z p)) = (p + 1) :: ex (grownR z c p k) := by
  unfold grownR
  have hd : (k + plc z p) / plc z p = k / plc z p + 1 := Int.add_ediv_of_dvd_right (Int.dvd_refl _) |>.trans (by rw [Int.ediv_self (by omega)])
  have hm : (k + plc z p) % plc z p = k % plc z p := Int.add_emod_right ..
  have hq : 0 ≤ k / plc z p := Int.ediv_nonneg hk (by omega)
  rw [if_neg (show ¬ k + plc z p = 0 by omega), hd, hm]
  have e1 : (k / plc z p + 1).toNat = (k / plc z p).toNat + 1 := by omega
  by_cases k0 : k = 0
  · rw [if_pos k0, k0, Int.zero_emod, Int.zero_ediv, if_pos rfl]
    simp only [ex_cons, ex_nil, List.append_nil]
    rw [show c + 1 - (0 + 1) = c by omega]
    rfl
  · rw [if_neg k0]
    by_cases k1 : k % plc z p = 0
    · rw [if_pos k1, if_pos k1]
      simp only [ex_cons, ex_nil, List.append_nil]
      rw [e1, show c + 1 - (k / plc z p + 1) = c - k / plc z p by omega, List.replicate_succ]
      rfl
    · rw [if_neg k1, if_neg k1]
      simp only [ex_cons, ex_nil, List.append_nil]
      rw [e1, show c + 1 - (k / plc z p + 1) - 1 = c - k / plc z p - 1 by omega, List.replicate_succ]
      rfl
theorem pour_run {p z : Int} : ∀ {c : Nat} {n : Int} {X : List Int}, 0 ≤ n → pour p n (List.replicate c z ++ X) = ex (grownR z c p (min n (c * plc z p))) ++ pour p (n - min n (c * plc z p)) X
  | 0, n, X, hn => by
    rw [show ((0 : Nat) : Int) * plc z p = 0 by simp, show min n 0 = 0 by omega, show n - 0 = n by omega]
    rfl
  | c + 1, n, X, hn => by
    have hb := plc_nn z p
    rw [List.replicate_succ, List.cons_append, pour]
    have hcb : 0 ≤ (c : Int) * plc z p := Int.mul_nonneg (by omega) hb
    have hs : ((c + 1 : Nat) : Int) * plc z p = c * plc z p + plc z p := by
      rw [show ((c + 1 : Nat) : Int) = (c : Int) + 1 from rfl, Int.add_mul, Int.one_mul]
    rw [hs]
    by_cases b0 : plc z p = 0
    · rw [pour_run (by omega), b0]
      rw [show (c : Int) * 0 + 0 = 0 by simp, show (c : Int) * 0 = 0 by simp, show min n 0 = 0 by omega, show n - 0 = n by omega, show min n 0 = 0 by omega, show n - 0 = n by omega]
      show (z + 0) :: (ex [(z, (c : Int))] ++ pour p n X) = ex [(z, ((c + 1 : Nat) : Int))] ++ pour p n X
      rw [ex_cons, ex_cons, ex_nil, List.append_nil, List.append_nil]
      show (z + 0) :: (List.replicate c z ++ pour p n X) = List.replicate (c + 1) z ++ pour p n X
      rw [Int.add_zero, List.replicate_succ]
      rfl
    · by_cases hnb : plc z p ≤ n
      · rw [show min n (plc z p) = plc z p by omega, pour_run (by omega)]
        have e2 : z + plc z p = p + 1 := by
          unfold plc at b0 ⊢
          omega
        rw [e2, show min n (c * plc z p + plc z p) = min (n - plc z p) (c * plc z p) + plc z p by omega]
        have e3 := grown_more (z := z) (c := (c : Int)) (p := p) (k := min (n - plc z p) (c * plc z p)) (by omega) (by omega) (by omega) (by omega)
        rw [show ((c + 1 : Nat) : Int) = (c : Int) + 1 from rfl, e3, show n - (min (n - plc z p) (c * plc z p) + plc z p) = n - plc z p - min (n - plc z p) (c * plc z p) by omega]
        rfl
      · rw [show min n (plc z p) = n by omega, show min n (c * plc z p + plc z p) = n by omega, show n - n = 0 by omega, pour_0, pour_0]
        unfold grownR
        by_cases n0 : n = 0
        · rw [if_pos n0, n0, ex_cons, ex_nil, List.append_nil]
          show (z + 0) :: (List.replicate c z ++ X) = List.replicate (c + 1) z ++ X
          rw [Int.add_zero, List.replicate_succ]
          rfl
        · have e1 : n % plc z p = n := Int.emod_eq_of_lt hn (by omega)
          have e2 : n / plc z p = 0 := Int.ediv_eq_zero_of_lt hn (by omega)
          rw [if_neg n0, e1, if_neg n0, e2]
          simp only [ex_cons, ex_nil, List.append_nil]
          rw [show ((c + 1 : Nat) : Int) - 0 - 1 = (c : Int) by omega]
          rfl
/-- a list of sizes, told as how many there are of each -/
structure Rle (R : List (Int × Int)) (L : List Int) : Prop where
  e : L = ex R
  d : R.Pairwise fun a b => b.1 < a.1
  p : ∀ r ∈ R, 0 < r.1 ∧ 0 < r.2
theorem ex_mem {R : List (Int × Int)} {y : Int} (m : y ∈ ex R) : ∃ r ∈ R, r.1 = y := by
  obtain ⟨r, mr, my⟩ := List.mem_flatMap.mp m
  exact ⟨r, mr, (List.mem_replicate.mp my).2.symm⟩
theorem ex_dn : ∀ {R : List (Int × Int)}, (R.Pairwise fun a b => b.1 < a.1) → Dn (ex R)
  | [], _ => .nil
  | r :: R, h => by
    have ⟨h1, h2⟩ := List.pairwise_cons.mp h
    rw [ex_cons]
    refine List.pairwise_append.mpr ⟨List.pairwise_replicate.mpr (.inr (Int.le_refl _)), ex_dn h2, fun a ma b mb => ?_⟩
    rw [(List.mem_replicate.mp ma).2]
    obtain ⟨x, mx, ex_⟩ := ex_mem mb
    have := h1 x mx
    omega
/-- how many of this size -/
def cnt (R : List (Int × Int)) (z : Int) : Int := ((ex R).count z : Nat)
theorem cnt_nil (z : Int) : cnt [] z = 0 := rfl
theorem cnt_append (R S : List (Int × Int)) (z : Int) : cnt (R ++ S) z = cnt R z + cnt S z := by
  unfold cnt
  rw [ex_append, List.count_append]
  rfl
theorem cnt_one (y c z : Int) (hc : 0 ≤ c) : cnt [(y, c)] z = if y = z then c else 0 := by
  unfold cnt
  rw [ex_cons, ex_nil, List.append_nil, List.count_replicate]
  by_cases h : y = z
  · rw [if_pos h, if_pos (by simp [h])]
    show ((c.toNat : Nat) : Int) = c
    omega
  · rw [if_neg h, if_neg (by simp [h])]
    rfl
theorem dn_eq : ∀ {L M : List Int}, Dn L → Dn M → L.Perm M → L = M
  | [], M, _, _, h => (List.nil_perm.mp h).symm
  | x :: L, [], _, _, h => (List.cons_ne_nil _ _ (List.perm_nil.mp h)).elim
  | x :: L, y :: M, h1, h2, h => by
    have ⟨a1, a2⟩ := List.pairwise_cons.mp h1
    have ⟨b1, b2⟩ := List.pairwise_cons.mp h2
    have e : x = y := by
      rcases List.mem_cons.mp (h.mem_iff.mp List.mem_cons_self) with z | z
      · exact z
      rcases List.mem_cons.mp (h.mem_iff.mpr List.mem_cons_self) with w | w
      · exact w.symm
      · have := b1 x z
        have := a1 y w
        omega
    subst e
    rw [dn_eq a2 b2 (List.Perm.cons_inv h)]
end El
namespace El
open PySem PySem.Spec PyProof.Rows L2
/-! ### a dict that counts -/
def putG (gs : List (Int × Int)) (z v : Int) : List (Int × Int) := if z ∈ gs.map (·.1) then gs.map (fun g => if g.1 = z then (g.1, v) else g) else gs ++ [(z, v)]
theorem putG_pks (gs : List (Int × Int)) (z v : Int) : putK (pks gs) (Sum.inl z : L2.Key) (V.int v) = pks (putG gs z v) := by
  have e : (pks gs).any (fun kv => decide (kv.1 = (Sum.inl z : L2.Key))) = decide (z ∈ gs.map (·.1)) := by
    induction gs with
    | nil => rfl
    | cons g gs ih =>
      show (decide ((Sum.inl g.1 : L2.Key) = Sum.inl z) || (pks gs).any (fun kv => decide (kv.1 = (Sum.inl z : L2.Key)))) = decide (z ∈ g.1 :: gs.map (·.1))
      rw [ih]
      by_cases h : g.1 = z
      · rw [h]
        simp
      · rw [decide_eq_false (show ¬ (Sum.inl g.1 : L2.Key) = Sum.inl z from fun y => h (Sum.inl.inj y)), Bool.false_or]
        refine decide_eq_decide.mpr ⟨fun m => List.mem_cons_of_mem _ m, fun m => ?_⟩
        rcases List.mem_cons.mp m with y | y
        · exact absurd y.symm h
        · exact y
  unfold putK putG
  rw [e]
  by_cases h : z ∈ gs.map (·.1)
  · rw [if_pos (decide_eq_true h), if_pos h]
    show (gs.map fun g => ((Sum.inl g.1 : L2.Key), V.int g.2)).map _ = (gs.map _).map _
    rw [List.map_map, List.map_map]
    refine List.map_congr_left fun g _ => ?_
    show (if (Sum.inl g.1 : L2.Key) = Sum.inl z then ((Sum.inl g.1 : L2.Key), V.int v) else (Sum.inl g.1, V.int g.2)) = (Sum.inl (if g.1 = z then (g.1, v) else g).1, V.int (if g.1 = z then (g.1, v) else g).2)
    by_cases y : g.1 = z
    · rw [if_pos (by rw [y]), if_pos y]
    · rw [if_neg (fun k => y (Sum.inl.inj k)), if_neg y]
  · rw [if_neg (by rw [decide_eq_true_iff]; exact h), if_neg h]
    rw [pks_snoc]
theorem putG_keys (gs : List (Int × Int)) (z v : Int) : (putG gs z v).map (·.1) = if z ∈ gs.map (·.1) then gs.map (·.1) else gs.map (·.1) ++ [z] := by
  unfold putG
  by_cases h : z ∈ gs.map (·.1)
  · rw [if_pos h, if_pos h, List.map_map]
    refine List.map_congr_left fun g _ => ?_
    show (if g.1 = z then (g.1, v) else g).1 = g.1
    split <;> rfl
  · rw [if_neg h, if_neg h, List.map_append]
    rfl
theorem putG_nd {gs : List (Int × Int)} {z v : Int} (nd : (gs.map (·.1)).Nodup) : ((putG gs z v).map (·.1)).Nodup := by
  rw [putG_keys]
  by_cases h : z ∈ gs.map (·.1)
  · rw [if_pos h]
    exact nd
  · rw [if_neg h]
    exact List.nodup_append.mpr ⟨nd, by simp, fun a ha b hb => by
      rw [List.mem_singleton.mp hb]
      exact fun e => h (e ▸ ha)⟩
theorem pof_nil (a : Int) : pof [] a = 0 := rfl
theorem pof_cons (g : Int × Int) (gs : List (Int × Int)) (a : Int) : pof (g :: gs) a = if g.1 = a then g.2 else pof gs a := by
  unfold pof
  rw [List.find?_cons]
  by_cases h : g.1 = a
  · simp [h]
  · simp [h]
theorem pof_out : ∀ {gs : List (Int × Int)} {a : Int}, a ∉ gs.map (·.1) → pof gs a = 0
  | [], _, _ => rfl
  | g :: gs, a, h => by
    rw [pof_cons, if_neg (show ¬ g.1 = a from fun e => h (by rw [← e]; exact List.mem_cons_self)), pof_out fun m => h (List.mem_cons_of_mem _ m)]
theorem pof_append_out : ∀ {gs hs : List (Int × Int)} {a : Int}, a ∉ gs.map (·.1) → pof (gs ++ hs) a = pof hs a
  | [], _, _, _ => rfl
  | g :: gs, hs, a, h => by
    rw [List.cons_append, pof_cons, if_neg (show ¬ g.1 = a from fun e => h (by rw [← e]; exact List.mem_cons_self)), pof_append_out fun m => h (List.mem_cons_of_mem _ m)]
theorem pof_append_in : ∀ {gs hs : List (Int × Int)} {a : Int}, a ∈ gs.map (·.1) → pof (gs ++ hs) a = pof gs a
  | [], _, _, h => (List.not_mem_nil h).elim
  | g :: gs, hs, a, h => by
    rw [List.cons_append, pof_cons, pof_cons]
    by_cases e : g.1 = a
    · rw [if_pos e, if_pos e]
    · rw [if_neg e, if_neg e]
      rcases List.mem_cons.mp h with y | y
      · exact absurd y.symm e
      · exact pof_append_in y
theorem putG_pof (gs : List (Int × Int)) (z v y : Int) : pof (putG gs z v) y = if y = z then v else pof gs y := by
  unfold putG
  by_cases h : z ∈ gs.map (·.1)
  · rw [if_pos h]
    induction gs with
    | nil => exact (List.not_mem_nil h).elim
    | cons g gs ih =>
      rw [List.map_cons, pof_cons, pof_cons]
      by_cases e : g.1 = z
      · rw [if_pos e]
        by_cases f : y = z
        · rw [if_pos f, if_pos (e.trans f.symm)]
        · rw [if_neg f, if_neg (fun k => f (k.symm.trans e)), if_neg (fun k => f (k.symm.trans e))]
          by_cases m : z ∈ gs.map (·.1)
          · rw [ih m, if_neg f]
          · congr 1
            refine (List.map_congr_left fun x mx => ?_).trans (List.map_id' gs)
            exact if_neg (show ¬ x.1 = z from fun k => m (by rw [← k]; exact List.mem_map_of_mem mx))
      · rw [if_neg e]
        have m : z ∈ gs.map (·.1) := (List.mem_cons.mp h).resolve_left fun k => e k.symm
        rw [ih m]
        by_cases f : y = z
        · rw [if_pos f, if_neg (fun k => e (k.trans f)), if_pos f]
        · rw [if_neg f, if_neg f]
  · rw [if_neg h]
    by_cases f : y = z
    · rw [if_pos f, f, pof_append_out h, pof_cons, if_pos rfl]
    · rw [if_neg f]
      by_cases m : y ∈ gs.map (·.1)
      · rw [pof_append_in m]
      · rw [pof_append_out m, pof_cons, if_neg fun k => f k.symm, pof_nil, pof_out m]
theorem val_pof {gs : List (Int × Int)} (nd : (gs.map (·.1)).Nodup) (z : Int) : (valV (pks gs) (Sum.inl z)).getD (.int 0) = .int (pof gs z) := by
  by_cases h : z ∈ gs.map (·.1)
  · rw [pks_get nd h]
    rfl
  · rw [pks_none h, pof_out h]
    rfl
/-- the dict has counted these -/
structure Hist (gs E : List (Int × Int)) : Prop where
  nd : (gs.map (·.1)).Nodup
  c : ∀ z, pof gs z = cnt E z
theorem Hist.nil : Hist [] [] := ⟨List.nodup_nil, fun _ => rfl⟩
theorem Hist.put {gs E : List (Int × Int)} (h : Hist gs E) {y c : Int} (hc : 0 ≤ c) : Hist (putG gs y (pof gs y + c)) (E ++ [(y, c)]) :=
  ⟨putG_nd h.nd, fun z => by
    rw [putG_pof, cnt_append, cnt_one y c z hc]
    by_cases e : z = y
    · rw [if_pos e, if_pos e.symm, h.c, e]
    · rw [if_neg e, if_neg fun k => e k.symm, h.c, Int.add_zero]⟩
theorem cnt_nn (E : List (Int × Int)) (z : Int) : 0 ≤ cnt E z := Int.natCast_nonneg _
theorem cnt_pof : ∀ {gs : List (Int × Int)}, (gs.map (·.1)).Nodup → (∀ g ∈ gs, 0 ≤ g.2) → ∀ z, cnt gs z = pof gs z
  | [], _, _, _ => rfl
  | g :: gs, nd, hp, z => by
    have ⟨n1, n2⟩ := List.nodup_cons.mp nd
    rw [show g :: gs = [g] ++ gs from rfl, cnt_append, show [g] = [(g.1, g.2)] from rfl, cnt_one g.1 g.2 z (hp g List.mem_cons_self), cnt_pof n2 (fun x m => hp x (List.mem_cons_of_mem _ m)), show [(g.1, g.2)] ++ gs = g :: gs from rfl, pof_cons]
    by_cases e : g.1 = z
    · rw [if_pos e, if_pos e, pof_out (e ▸ n1), Int.add_zero]
    · rw [if_neg e, if_neg e, Int.zero_add]
theorem Hist.vals {gs E : List (Int × Int)} (h : Hist gs E) : ∀ g ∈ gs, g.2 = cnt E g.1 := fun g m => by rw [← h.c, pof_is h.nd m]
def live (g : Int × Int) : Bool := decide (0 < g.1) && decide (0 < g.2)
theorem ex_perm {R S : List (Int × Int)} (h : R.Perm S) : (ex R).Perm (ex S) := h.flatMap_right _
/-- what the dict tells, sorted -/
theorem Hist.rle {gs E : List (Int × Int)} (h : Hist gs E) {M : List Int} (e : M = pos (ex E)) (dn : Dn M) : Fit (gs.filter live) ∧ Rle (byAge (gs.filter live)) M := by
  have lv : ∀ g ∈ gs.filter live, g ∈ gs ∧ 0 < g.1 ∧ 0 < g.2 := fun g m => by
    have ⟨a, b⟩ := List.mem_filter.mp m
    unfold live at b
    rw [Bool.and_eq_true, decide_eq_true_iff, decide_eq_true_iff] at b
    exact ⟨a, b⟩
  have F : Fit (gs.filter live) := ⟨(List.filter_sublist.map _).nodup h.nd, fun g m => Int.le_of_lt (lv g m).2.2⟩
  have d : (byAge (gs.filter live)).Pairwise fun a b => b.1 < a.1 :=
    (List.pairwise_and_iff.mpr ⟨byAge_sorted _, List.pairwise_map.mp F.byAge.nd⟩).imp fun {a b} h => by
      have h1 := h.1
      have h2 := h.2
      omega
  refine ⟨F, ?_, d, fun r m => (lv r ((byAge_perm _).mem_iff.mp m)).2⟩
  refine dn_eq dn (ex_dn d) ?_
  refine List.Perm.trans ?_ (ex_perm (byAge_perm _)).symm
  refine List.perm_iff_count.mpr fun z => ?_
  have k1 : ((ex (gs.filter live)).count z : Int) = pof (gs.filter live) z := cnt_pof F.nd (fun g m => F.pos g m) z
  have k2 : ((ex E).count z : Int) = pof gs z := (h.c z).symm
  have k3 : (M.count z : Int) = if 0 < z then pof gs z else 0 := by
    rw [e]
    unfold pos
    by_cases hz : 0 < z
    · rw [if_pos hz, List.count_filter (p := fun s => decide (0 < s)) (a := z) (l := ex E) (decide_eq_true hz), k2]
    · rw [if_neg hz, List.count_eq_zero_of_not_mem (a := z) (fun m => hz (of_decide_eq_true (show decide (0 < z) = true from (List.mem_filter.mp m).2)))]
      rfl
  have k4 : pof (gs.filter live) z = if 0 < z then pof gs z else 0 := by
    by_cases m : z ∈ (gs.filter live).map (·.1)
    · obtain ⟨g, mg, eg⟩ := List.mem_map.mp m
      have ⟨a, b, c⟩ := lv g mg
      rw [← eg, pof_is F.nd mg, if_pos b, pof_is h.nd a]
    · rw [pof_out m]
      by_cases hz : 0 < z
      · rw [if_pos hz]
        by_cases k : z ∈ gs.map (·.1)
        · obtain ⟨g, mg, eg⟩ := List.mem_map.mp k
          rw [← eg, pof_is h.nd mg]
          have v := h.vals g mg
          have nn := cnt_nn E g.1
          have : ¬ 0 < g.2 := fun b => m (List.mem_map.mpr ⟨g, List.mem_filter.mpr ⟨mg, by
            unfold live
            rw [decide_eq_true (eg ▸ hz), decide_eq_true b]
            rfl⟩, eg⟩)
          omega
        · rw [pof_out k]
      · rw [if_neg hz]
  have : ((M.count z : Nat) : Int) = ((ex (gs.filter live)).count z : Nat) := by rw [k3, k1, k4]
  omega
end El
namespace El
open PySem PySem.Spec PyProof.Rows L2
/-- a method as the top has written it -/
structure Ma (K : PySem.W.Frag) (C : Addr) (m q : Str) (ps : List Str) (st : Stmt) : Prop where
  ex : ∃ (f : Addr) (fd : FuncData), Fun K m q st f fd ∧ Meth K C m f ∧ Binds K fd ps []
/-- a method and what it promises -/
structure Mf (P : Program) (w : World) (K : PySem.W.Frag) (mg : Str → Option Value) (base : Heap) (k : Nat) (C : Addr) (m q : Str) (ps : List Str) (st : Stmt) (sp : Sp) : Prop where
  ex : ∃ (f : Addr) (fd : FuncData), Fun K m q st f fd ∧ Meth K C m f ∧ Binds K fd ps [] ∧ FnOk P w K mg base CX0 k f fd ps sp
theorem Ma.mf {P : Program} {w : World} {K : PySem.W.Frag} {mg : Str → Option Value} {base : Heap} {k : Nat} {C : Addr} {m q : Str} {ps : List Str} {st : Stmt} {sp : Sp} (A : Ma K C m q ps st)
    (h : ∀ f fd, Fun K m q st f fd → FnOk P w K mg base CX0 k f fd ps sp) : Mf P w K mg base k C m q ps st sp := by
  obtain ⟨f, fd, F, M, b⟩ := A.ex
  exact ⟨f, fd, F, M, b, h f fd F⟩
section
variable {X : Cx} {k : Nat} {C : Addr} {m q : Str} {st : Stmt} {ps : List Str} {sp : Sp} {pos apos : Pos} {o e : Expr} {es : List Expr} {ta : TE} {t : TA}
/-- o.m(e, ..) -/
theorem pe_mf {pl : Sem Bool} (D : Mf X.prog X.w X.K X.mg X.base k C m q ps st sp) (c : Cls X.K C) (hr : Room k X.A) (he : PE X o ta) (ha : PA X (e :: es) t)
    (hst : starEach (e :: es) X.env = (false, eval e X.env) :: starEach es X.env := by rfl) (hpl : (backTo pos (starEach es X.env)).any (·.1) = false := by rfl)
    (ht : eval (.Call (.Attribute o m apos) (e :: es) [] pos) X.env = (do
      let ov ← eval o X.env
      standAt apos.atName
      let (f, first) ← holding [ov] (getMethod ov m pl)
      callWith pos f first (backTo pos (starEach (e :: es) X.env)) (backToKw pos (keywordEach [] X.env))) := by rfl) :
    PE X (.Call (.Attribute o m apos) (e :: es) [] pos) (tMeth C m sp [] E0 ta t) := by
  obtain ⟨f, fd, _, M, b, F⟩ := D.ex
  exact pe_meth (pl := pl) he c M F hr b .nil pass0 ha hst hpl ht
/-- o.m() -/
theorem pe_mf0 {pl : Sem Bool} (D : Mf X.prog X.w X.K X.mg X.base k C m q ps st sp) (c : Cls X.K C) (hr : Room k X.A) (he : PE X o ta)
    (ht : eval (.Call (.Attribute o m apos) [] [] pos) X.env = (do
      let ov ← eval o X.env
      standAt apos.atName
      let (f, first) ← holding [ov] (getMethod ov m pl)
      callWith pos f first (backTo pos (starEach [] X.env)) (backToKw pos (keywordEach [] X.env))) := by rfl) :
    PE X (.Call (.Attribute o m apos) [] [] pos) (tMeth C m sp [] E0 ta tNil) := by
  obtain ⟨f, fd, _, M, b, F⟩ := D.ex
  exact pe_meth0 (pl := pl) he c M F hr b .nil pass0 ht
/-- the reading of o.m(k = v, ..): the values in the order of g, behind the object -/
def tMethW (C : Addr) (m : Str) (n : Nat) (sp : Sp) (g : List V → List V) (ta : TE) (tk : TA) : TE := fun σ H Q => ta σ H fun x H1 => ∃ a dx fs, x = .ref a ∧ H1 a = some (.ins C dx fs) ∧ fs.lookup m = none ∧
  tk σ H1 fun zs H2 => zs.length = n ∧ sp (x :: g zs) H2 Q E0
theorem pe_mfK {kws : List Keyword} {tk : TA} {pl : Sem Bool} (D : Mf X.prog X.w X.K X.mg X.base k C m q ps st sp) (c : Cls X.K C) (ks : List Str) (g : {α : Type} → List α → List α) (hr : Room k X.A) (he : PE X o ta) (hkw : PK X kws tk)
    (hb : ∀ (kV doc pm : Value) (an : Option Addr) (cdv ct : Value) (u : Value) (ws : List Value), ws.length = ks.length → bindArgs (PySem.W.fnOf m q (defArgs st) (defBody st) (defScope st) .none kV doc pm an cdv ct) ⟨[u], ks.zip ws⟩ = pure (ps.zip (u :: g ws)))
    (hrel : ∀ {zs : List V} {ws : List Value}, Vals zs ws → Vals (g zs) (g ws))
    (hall : (backToKw pos (keywordEach kws X.env)).all (·.1.isSome) = true := by rfl) (hks : (backToKw pos (keywordEach kws X.env)).filterMap (·.1) = ks := by rfl)
    (hpl : ((backTo pos (starEach [] X.env)).any (·.1) || (backToKw pos (keywordEach kws X.env)).any (·.1.isNone)) = false := by rfl)
    (ht : eval (.Call (.Attribute o m apos) [] kws pos) X.env = (do
      let ov ← eval o X.env
      standAt apos.atName
      let (f, first) ← holding [ov] (getMethod ov m pl)
      callWith pos f first (backTo pos (starEach [] X.env)) (backToKw pos (keywordEach kws X.env))) := by rfl) :
    PE X (.Call (.Attribute o m apos) [] kws pos) (tMethW C m ks.length sp (fun zs => g zs) ta tk) := by
  obtain ⟨f, fd, F, M, b, G⟩ := D.ex
  have KB : KBn X.K fd ps 1 ks (fun us ws => us ++ g ws) (fun vs zs => vs ++ g zs) := by
    obtain ⟨oc, od, kV, doc, pm, an, cdv, ct, osl, rfl, lk, hcd⟩ := F.ex
    refine ⟨fun s us ws hK l1 l2 => ?_, fun {vs us zs ws} r rz => Vals.append r (hrel rz)⟩
    match us, l1 with
    | [u], _ => exact .of_eq (hb kV doc pm an cdv ct u ws l2)
  refine ⟨fun pins s σ H Q I h => ?_⟩
  refine PySem.W.methodCall_KW (pl := pl) (thn (he.run pins s σ H _ I h) fun u s1 ⟨x, H1, I1, rx, a, dx, fs, ex, ea, l, q⟩ => ?_) ht
  subst ex
  obtain rfl : u = Value.ref a := rx
  refine getmeth_ok I1 ea c M l ?_
  refine PySem.W.callWith_KW0 (first := [.ref a]) (h₀ := X.base) I.ok.mod.kin M.kp hall ?_ hpl
  refine thn (hkw.run pos pins s1 σ H1 _ I1 q) fun ws s2 ⟨zs, H2, I2, rz, l2, q2⟩ => ⟨I2.kIn, ?_⟩
  rw [hks]
  exact run_fnN (us := [.ref a]) (vs := [.ref a]) G hr KB pass0 I2 (.cons rfl .nil) rz rfl l2 q2
end
/-! ### what an Inn looks like between two calls -/
theorem npr : ¬ (("_patience_of" : Str) = "_rooms") := by decide +kernel
/-- its fields in the order in which they are set -/
def iflds (d o : Addr) : List (Str × V) := putF "_rooms" (.ref o) (putF "_patience_of" (.ref d) [])
theorem iflds_p (d o : Addr) : (iflds d o).lookup ("_patience_of" : Str) = some (.ref d) := by
  unfold iflds
  rw [lookup_putF, if_neg npr, lookup_putF, if_pos rfl]
theorem iflds_r (d o : Addr) : (iflds d o).lookup ("_rooms" : Str) = some (.ref o) := by
  unfold iflds
  rw [lookup_putF, if_pos rfl]
theorem iflds_no (d o : Addr) {m : Str} (h1 : ¬ m = "_rooms") (h2 : ¬ m = "_patience_of") : (iflds d o).lookup m = none := by
  unfold iflds
  rw [lookup_putF, if_neg h1, lookup_putF, if_neg h2]
  rfl
/-- what of the text the class has -/
structure InnT (K : PySem.W.Frag) (mg : Str → Option Value) (C : Addr) : Prop where
  cl : Cls K C
  nP : NoAttr K C "_patience_of"
  nR : NoAttr K C "_rooms"
  mgC : mg "Inn" = some (.ref C)
/-- an Inn at p: the guests gs in the order in which they came, the rooms rs; all it owns lies in B -/
structure InnAt (C : Addr) (H : Hp) (B : Addr → Prop) (p d o : Addr) (ts : List Addr) (gs : List (Int × Int)) (rs : List (List Int)) : Prop where
  ob : ∃ dx, H p = some (.ins C dx (iflds d o))
  dc : H d = some (.dK (pks gs))
  rm : RmsAt H B o ts rs
  bp : B p
  bd : B d
theorem InnAt.keep {C : Addr} {H H' : Hp} {B : Addr → Prop} {p d o : Addr} {ts : List Addr} {gs : List (Int × Int)} {rs : List (List Int)} (h : InnAt C H B p d o ts gs rs) (k : Kp B H H') : InnAt C H' B p d o ts gs rs := by
  obtain ⟨⟨dx, e⟩, dc, rm, bp, bd⟩ := h
  exact ⟨⟨dx, k _ _ bp e⟩, k _ _ bd dc, rm.keep k, bp, bd⟩
theorem InnAt.same {C : Addr} {H H' : Hp} {B : Addr → Prop} {p d o : Addr} {ts : List Addr} {gs : List (Int × Int)} {rs : List (List Int)} (h : InnAt C H B p d o ts gs rs) (k : Same H H') : InnAt C H' B p d o ts gs rs := h.keep (.of k)
theorem InnAt.pd {C : Addr} {H : Hp} {B : Addr → Prop} {p d o : Addr} {ts : List Addr} {gs : List (Int × Int)} {rs : List (List Int)} (h : InnAt C H B p d o ts gs rs) : p ≠ d := fun z => by
  obtain ⟨dx, e⟩ := h.ob
  rw [z, h.dc] at e
  cases e
theorem InnAt.po {C : Addr} {H : Hp} {B : Addr → Prop} {p d o : Addr} {ts : List Addr} {gs : List (Int × Int)} {rs : List (List Int)} (h : InnAt C H B p d o ts gs rs) : p ≠ o := fun z => by
  obtain ⟨dx, e⟩ := h.ob
  rw [z, h.rm.top] at e
  cases e
theorem InnAt.od {C : Addr} {H : Hp} {B : Addr → Prop} {p d o : Addr} {ts : List Addr} {gs : List (Int × Int)} {rs : List (List Int)} (h : InnAt C H B p d o ts gs rs) : o ≠ d := fun z => by
  have e := h.dc
  rw [← z, h.rm.top] at e
  cases e
theorem InnAt.room {C : Addr} {H : Hp} {B : Addr → Prop} {p d o : Addr} {ts : List Addr} {gs : List (Int × Int)} {rs : List (List Int)} (h : InnAt C H B p d o ts gs rs) {t : Addr} (m : t ∈ ts) : t ≠ p ∧ t ≠ d := by
  obtain ⟨i, e⟩ := List.mem_iff_getElem?.mp m
  have hl := at_lt e
  rw [h.rm.len] at hl
  obtain ⟨r, er⟩ := at_some hl
  have e1 := h.rm.at' i t r e er
  refine ⟨fun z => ?_, fun z => ?_⟩
  · obtain ⟨dx, e2⟩ := h.ob
    rw [← z, e1] at e2
    cases e2
  · have e2 := h.dc
    rw [← z, e1] at e2
    cases e2
/-- its rooms alone have changed -/
theorem InnAt.rooms {C : Addr} {H H' : Hp} {B : Addr → Prop} {p d o : Addr} {ts ts' : List Addr} {gs : List (Int × Int)} {rs rs' : List (List Int)} (h : InnAt C H B p d o ts gs rs) (k : Kp (fun b => b ≠ o ∧ b ∉ ts) H H') (r : RmsAt H' B o ts' rs') : InnAt C H' B p d o ts' gs rs' := by
  obtain ⟨dx, e⟩ := h.ob
  exact ⟨⟨dx, k _ _ ⟨h.po, fun m => (h.room m).1 rfl⟩ e⟩, k _ _ ⟨h.od.symm, fun m => (h.room m).2 rfl⟩ h.dc, r, h.bp, h.bd⟩
/-- guest a has entered room i -/
def enterR (rs : List (List Int)) (i : Nat) (a : Int) : List (List Int) := if i < rs.length then rs.set i (down (rs.getD i [] ++ [a])) else rs ++ [[a]]
theorem enterR_old {rs : List (List Int)} {i : Nat} {r : List Int} (a : Int) (h : rs[i]? = some r) : enterR rs i a = rs.set i (down (r ++ [a])) := by
  unfold enterR
  rw [if_pos (at_lt h), List.getD_eq_getElem?_getD, h]
  rfl
theorem enterR_new (rs : List (List Int)) (a : Int) : enterR rs rs.length a = rs ++ [[a]] := if_neg (Nat.lt_irrefl _)
/-- another list in the place of one -/
theorem RmsAt.put {H : Hp} {B : Addr → Prop} {o q : Addr} {ts : List Addr} {rs : List (List Int)} {i : Nat} {r : List Int} (h : RmsAt H B o ts rs) (hi : i < rs.length) (e : H q = some (.lst (r.map V.int))) (bq : B q) (nq : q ∉ ts) (qo : q ≠ o) :
    RmsAt (upd H o (.lst ((ts.set i q).map V.ref))) B o (ts.set i q) (rs.set i r) := by
  have inn : ∀ t ∈ ts.set i q, t = q ∨ t ∈ ts := fun t m => (List.mem_or_eq_of_mem_set m).symm
  have hn : ∀ t ∈ ts.set i q, t ≠ o := fun t m z => by
    rcases inn t m with y | y
    · exact qo (y ▸ z)
    · exact h.no (z ▸ y)
  refine ⟨upd_same, h.bo, ?_, fun m => hn o m rfl, ?_, fun j t x e1 e2 => ?_, fun t m => ?_⟩
  · rw [List.nodup_iff_pairwise_ne, List.pairwise_iff_getElem]
    intro a b ha hb hab
    rw [List.length_set] at ha hb
    rw [List.getElem_set, List.getElem_set]
    by_cases h1 : i = a
    · by_cases h2 : i = b
      · omega
      · rw [if_pos h1, if_neg h2]
        exact fun z => nq (z ▸ List.getElem_mem hb)
    · by_cases h2 : i = b
      · rw [if_neg h1, if_pos h2]
        exact fun z => nq (z ▸ List.getElem_mem ha)
      · rw [if_neg h1, if_neg h2]
        exact List.pairwise_iff_getElem.mp (List.nodup_iff_pairwise_ne.mp h.nd) a b ha hb hab
  · rw [List.length_set, List.length_set]
    exact h.len
  · rw [upd_ne (hn t (List.mem_of_getElem? e1))]
    by_cases hj : i = j
    · subst hj
      rw [List.getElem?_set_self (by rw [h.len]; exact hi)] at e1
      rw [List.getElem?_set_self hi] at e2
      obtain rfl : q = t := Option.some.inj e1
      obtain rfl : r = x := Option.some.inj e2
      exact e
    · rw [List.getElem?_set_ne hj] at e1 e2
      exact h.at' j t x e1 e2
  · rcases inn t m with rfl | m
    · exact bq
    · exact h.b t m
theorem RmsAt.lives {H : Hp} {B : Addr → Prop} {o : Addr} {ts : List Addr} {rs : List (List Int)} (h : RmsAt H B o ts rs) {t : Addr} (m : t ∈ ts) : ∃ r : List Int, H t = some (.lst (r.map V.int)) := by
  obtain ⟨i, e⟩ := List.mem_iff_getElem?.mp m
  have hl := at_lt e
  rw [h.len] at hl
  obtain ⟨r, er⟩ := at_some hl
  exact ⟨r, h.at' i t r e er⟩
theorem RmsAt.reL {H : Hp} {B B' : Addr → Prop} {o : Addr} {ts : List Addr} {rs : List (List Int)} (h : RmsAt H B o ts rs) (k : ∀ b, (∃ v, H b = some v) → B b → B' b) : RmsAt H B' o ts rs :=
  ⟨h.top, k _ ⟨_, h.top⟩ h.bo, h.nd, h.no, h.len, h.at', fun t m => k _ (let ⟨r, e⟩ := h.lives m; ⟨_, e⟩) (h.b t m)⟩
theorem InnAt.reB {C : Addr} {H : Hp} {B B' : Addr → Prop} {p d o : Addr} {ts : List Addr} {gs : List (Int × Int)} {rs : List (List Int)} (h : InnAt C H B p d o ts gs rs) (k : ∀ b, (∃ v, H b = some v) → B b → B' b) : InnAt C H B' p d o ts gs rs :=
  ⟨h.ob, h.dc, h.rm.reL k, k _ (let ⟨dx, e⟩ := h.ob; ⟨_, e⟩) h.bp, k _ ⟨_, h.dc⟩ h.bd⟩
theorem ifYes {c : Bool} {A B : Prop} (hc : c = true) (h : A) : if c = true then A else B := by
  subst hc
  exact iteT h
theorem ifNo {c : Bool} {A B : Prop} (hc : c = false) (h : B) : if c = true then A else B := by
  subst hc
  exact iteF h
end El
namespace El
/-- rooms in which somebody is on the way: x is to enter room i -/
def Mid (gs : List (Int × Int)) (rs : List (List Int)) (i : Nat) (x : Int × Int) : Prop :=
  ∃ (D : List (List Int)) (L L' : List (Int × Int)), rs = D ++ settleL L ∧ D.length = i ∧ Comes x L L' ∧ L'.Sublist (byAge gs) ∧ settle gs = D ++ settleL L'
theorem Comes.sub {x : Int × Int} {L L' : List (Int × Int)} (h : Comes x L L') : L.Sublist L' := by
  obtain ⟨pre, post, rfl, rfl⟩ := h
  exact (List.Sublist.refl pre).append (List.sublist_cons_self x post)
theorem Comes.mem {x : Int × Int} {L L' : List (Int × Int)} (h : Comes x L L') : x ∈ L' := by
  obtain ⟨pre, post, _, rfl⟩ := h
  simp
theorem Comes.has {x g : Int × Int} {L L' : List (Int × Int)} (h : Comes x L L') (m : g ∈ L) : g ∈ L' := h.sub.subset m
theorem Mid.start {gs : List (Int × Int)} {x : Int × Int} (F : Fit (gs ++ [x])) : Mid (gs ++ [x]) (settle gs) 0 x := by
  have p : (x :: gs).Perm (gs ++ [x]) := by
    have := List.perm_append_comm (l₁ := [x]) (l₂ := gs)
    exact this
  obtain ⟨pre, post, e1, e2⟩ := byAge_split (F.perm p)
  have e3 : byAge (gs ++ [x]) = pre ++ x :: post := by
    rw [← e1]
    exact (byAge_congr F p).symm
  refine ⟨[], byAge gs, byAge (gs ++ [x]), rfl, rfl, ⟨pre, post, e2, e3⟩, List.Sublist.refl _, rfl⟩
theorem Mid.first {gs : List (Int × Int)} {rs : List (List Int)} {i : Nat} {x : Int × Int} (F : Fit gs) (M : Mid gs rs i x) : i < (settle gs).length ∧ i ≤ rs.length ∧ rs.length ≤ 2 * gs.length ∧ (∀ r ∈ rs, r.length ≤ gs.length) ∧ x ∈ gs := by
  obtain ⟨D, L, L', e1, e2, c, s, e3⟩ := M
  have pos : ∀ g ∈ L', 0 ≤ g.2 := fun g m => F.pos g ((byAge_perm gs).mem_iff.mp (s.subset m))
  have ne : L' ≠ [] := fun z => by
    have := c.mem
    rw [z] at this
    cases this
  have l1 := s.length_le
  rw [byAge_length] at l1
  have l2 := c.sub.length_le
  have l3 := settleL_len (byAge gs)
  rw [byAge_length] at l3
  have l3' : (settle gs).length ≤ gs.length := l3
  have l4 := settleL_len L
  have l5 : (settle gs).length = D.length + (settleL L').length := by
    rw [e3, List.length_append]
  have l6 : 0 < (settleL L').length := by
    rw [settle_first ne pos, List.length_cons]
    omega
  refine ⟨by omega, by rw [e1, List.length_append]; omega, by rw [e1, List.length_append]; omega, fun r m => ?_, (byAge_perm gs).mem_iff.mp (s.subset c.mem)⟩
  rw [e1] at m
  rcases List.mem_append.mp m with m | m
  · have m' : r ∈ settleL (byAge gs) := by
      show r ∈ settle gs
      rw [e3]
      exact List.mem_append_left _ m
    have := settleL_room m'
    rw [byAge_length] at this
    exact this
  · have := settleL_room m
    omega
theorem Mid.step {gs : List (Int × Int)} {rs : List (List Int)} {i : Nat} {x : Int × Int} (F : Fit gs) (M : Mid gs rs i x) :
    ∃ E : List Int, (enterR rs i x.1)[i]? = some E ∧ E.length ≤ gs.length ∧ (∀ a ∈ E, a ∈ gs.map (·.1)) ∧ E.Nodup ∧
      ((eldUp gs E = none ∧ enterR rs i x.1 = settle gs) ∨ ∃ y : Int × Int, y.1 ∈ E ∧ eldUp gs E = some y.1 ∧ Mid gs ((enterR rs i x.1).set i (E.erase y.1)) (i + 1) y) := by
  obtain ⟨D, L, L', rfl, rfl, c, s, e3⟩ := M
  have mem : ∀ g ∈ L', g ∈ gs := fun g m => (byAge_perm gs).mem_iff.mp (s.subset m)
  obtain ⟨E, pE, dE, out⟩ := come_step F c s
  have e1 : enterR (D ++ settleL L) D.length x.1 = D ++ E :: settleL (r0 0 L) := by
    rw [settle_parts fun g m => F.pos g (mem g (c.has m))]
    by_cases h : L = []
    · rw [if_pos h]
      subst h
      have eE : E = [x.1] := List.perm_singleton.mp (pE.trans (.refl _))
      rw [List.append_nil, enterR_new, eE]
      rfl
    · rw [if_neg h]
      have er : (D ++ roomOf L :: settleL (r0 0 L))[D.length]? = some (roomOf L) := by
        rw [List.getElem?_append_right (Nat.le_refl _), Nat.sub_self]
        rfl
      have eE : E = down (roomOf L ++ [x.1]) := down_is (pE.trans (List.perm_append_comm (l₁ := [x.1]) (l₂ := roomOf L))) (dE.imp fun h => by omega)
      rw [enterR_old x.1 er, List.set_append_right _ _ (Nat.le_refl _), Nat.sub_self, ← eE]
      rfl
  have inE : ∀ a ∈ E, a ∈ gs.map (·.1) := fun a m => by
    rcases List.mem_cons.mp (pE.mem_iff.mp m) with rfl | m
    · exact List.mem_map_of_mem (mem x c.mem)
    · obtain ⟨g, hg, rfl⟩ := List.mem_map.mp m
      exact List.mem_map_of_mem (mem g (c.has ((g0_sub L 0).subset hg)))
  have ndE : E.Nodup := dE.imp fun h => by omega
  refine ⟨E, ?_, ?_, inE, ndE, ?_⟩
  · rw [e1, List.getElem?_append_right (Nat.le_refl _), Nat.sub_self]
    rfl
  · have := List.Nodup.length_le_of_subset ndE inE
    rw [List.length_map] at this
    exact this
  · rcases out with ⟨h1, h2⟩ | ⟨y, hy, m, h1, h2, h3⟩
    · exact .inl ⟨h1, by rw [e1, e3, h2]⟩
    · refine .inr ⟨y, m, h1, D ++ [E.erase y.1], r0 0 L, r0 0 L', ?_, by rw [List.length_append]; rfl, h3, (r0_sub L' 0).trans s, ?_⟩
      · rw [e1, List.set_append_right _ _ (Nat.le_refl _), Nat.sub_self, List.append_assoc]
        rfl
      · rw [e3, h2, List.append_assoc]
        rfl
/-- who came into which room, and the rooms then -/
def comeF : Nat → List (Int × Int) → List (List Int) → Nat → Int → List (Int × Int) × List (List Int)
  | 0, _, rs, _, _ => ([], rs)
  | n + 1, gs, rs, i, x =>
    match eldUp gs ((enterR rs i x).getD i []) with
    | none => ([(x, (i : Int))], enterR rs i x)
    | some y => ((x, (i : Int)) :: (comeF n gs ((enterR rs i x).set i (((enterR rs i x).getD i []).erase y)) (i + 1) y).1, (comeF n gs ((enterR rs i x).set i (((enterR rs i x).getD i []).erase y)) (i + 1) y).2)
theorem comeF_end {n : Nat} {gs : List (Int × Int)} {rs : List (List Int)} {i : Nat} {x : Int} {E : List Int} (e : (enterR rs i x)[i]? = some E) (h : eldUp gs E = none) : comeF (n + 1) gs rs i x = ([(x, (i : Int))], enterR rs i x) := by
  unfold comeF
  rw [List.getD_eq_getElem?_getD, e]
  show (match eldUp gs E with | none => _ | some y => _) = _
  rw [h]
theorem comeF_on {n : Nat} {gs : List (Int × Int)} {rs : List (List Int)} {i : Nat} {x y : Int} {E : List Int} (e : (enterR rs i x)[i]? = some E) (h : eldUp gs E = some y) :
    comeF (n + 1) gs rs i x = ((x, (i : Int)) :: (comeF n gs ((enterR rs i x).set i (E.erase y)) (i + 1) y).1, (comeF n gs ((enterR rs i x).set i (E.erase y)) (i + 1) y).2) := by
  rw [comeF]
  rw [List.getD_eq_getElem?_getD, e]
  show (match eldUp gs E with | none => _ | some y => _) = _
  rw [h]
  rfl
/-- the pairs told when x comes to gs -/
def comeT (gs : List (Int × Int)) (x : Int × Int) : List (Int × Int) := (comeF (settle (gs ++ [x])).length (gs ++ [x]) (settle gs) 0 x.1).1
end El
namespace El
open PySem PySem.Spec PyProof.Rows L2
/-! ### what a method with two lines around its name is asked by -/
section
variable {X : Cx} {k : Nat} {C : Addr} {m q : Str} {st : Stmt} {ps : List Str} {sp : Sp}
/-- a method of ours, run below a builtin -/
theorem run_in {pins : List (Addr × Obj)} {σ : L2.St} {H : Hp} {s : Shared} {A : Around} {Q : VK} {us : List Value} {vs : List V} {f : Addr} {fd : FuncData} (F : FnOk X.prog X.w X.K X.mg X.base CX0 k f fd ps sp) (hr : Room k A) (hfr : A.frames = X.A.frames) (hb : Binds X.K fd ps [])
    (I : Inv X pins σ H s) (r : Vals vs us) (h : sp vs H Q E0) : wpAny (model X.prog X.w) A (call (.ref f) us) (EP X pins σ Q) X.xe s := by
  have e0 : Env0 X.prog X.w X.K X.mg X.base A X.stack s H := by
    have e := I.env0
    exact ⟨by rw [hfr]; exact e.frames, e.mod, e.bs, e.bsz, e.funs, e.frf, e.hok, e.bare⟩
  have hl : us.length = ps.length := by
    rw [← r.length]
    exact F.len _ _ _ _ h
  refine wpAny_call (codeAny_mono (F.run A X.stack s H ⟨us, []⟩ us vs Q E0 hr e0 (by
    have := hb s us I.kIn (by simpa using hl)
    simpa using this) r h) fun r s' hq => ?_)
  cases r with
  | error e => exact pass0 pins σ H s e s' I hq
  | ok fl =>
    cases fl with
    | ret u => exact I.after hq
    | next => exact False.elim hq
    | brk => exact False.elim hq
    | cont => exact False.elim hq
/-- len(o), o with an own __len__ -/
def rLenO (C : Addr) (sp : Sp) : List V → Hp → VK → Prop := fun xs H Q => ∃ (p dx : Addr) (fs : List (Str × V)), xs = [.ref p] ∧ H p = some (.ins C dx fs) ∧ sp [.ref p] H (fun v H' => ∃ n : Int, v = .int n ∧ 0 ≤ n ∧ n < 2 ^ 63 ∧ Q (.int n) H') E0
theorem call_lenO (D : Mf X.prog X.w X.K X.mg X.base k C "__len__" q ps st sp) (hr : Room (k + 1) X.A) : CallR X (.builtin "len") (rLenO C sp) := by
  obtain ⟨f, fd, _, M, b, F⟩ := D.ex
  intro pins s σ H xs us Q I r h
  obtain ⟨p, dx, fs, rfl, ep, h⟩ := h
  obtain rfl := Vals.ref1 r
  obtain ⟨mA, J, _⟩ := ins_get I.hok ep
  obtain ⟨od, J, _⟩ := J.look
  obtain ⟨mm, hF⟩ := I.fr
  refine PySem.W.len_K hF I.ok.mod.kin J M.at_ M.fn ?_
  have r1 : Vals [V.ref p] [Value.ref p] := .cons rfl .nil
  refine wpAny_mono (run_in F hr.in1 rfl b I r1 h) (fun u s' hq => ?_) fun _ _ x => x
  obtain ⟨v, H', I', rv, n, rfl, n0, n1, q⟩ := hq
  obtain ⟨t, rfl⟩ := rv
  exact ⟨⟨n0, n1⟩, .int n, H', I'.tok _, ⟨_, rfl⟩, q⟩
/-- a op b, both of a class of the text's own that says itself how -/
def rCmpO (C : Addr) (sp : Sp) : R2 := fun x y H Q => ∃ (a b dx dy : Addr) (fs gs : List (Str × V)), x = .ref a ∧ y = .ref b ∧ H a = some (.ins C dx fs) ∧ H b = some (.ins C dy gs) ∧ sp [.ref a, .ref b] H (fun v H' => ∃ c : Bool, v = .bl c ∧ Q (.bl c) H') E0
theorem cmpO {op : CmpOp} {pins : List (Addr × Obj)} {σ : L2.St} {H : Hp} {s : Shared} {Q : VK} {a b dx dy : Addr} {fs gs : List (Str × V)} (D : Mf X.prog X.w X.K X.mg X.base k C (cmpInfo op).2.1 q ps st sp) (hr : Room k X.A) (I : Inv X pins σ H s) (ha : H a = some (.ins C dx fs)) (hb : H b = some (.ins C dy gs))
    (h : sp [.ref a, .ref b] H (fun v H' => ∃ c : Bool, v = .bl c ∧ Q (.bl c) H') E0) : wpAny (model X.prog X.w) X.A (richCompare op (.ref a) (.ref b)) (EP X pins σ Q) X.xe s := by
  obtain ⟨f, fd, _, M, bi, F⟩ := D.ex
  obtain ⟨mA, J, _⟩ := ins_get I.hok ha
  obtain ⟨mB, J', _⟩ := ins_get I.hok hb
  obtain ⟨od, J, _⟩ := J.look
  obtain ⟨od', J', _⟩ := J'.look
  obtain ⟨mm, hF⟩ := I.fr
  refine PySem.W.cmp_K (op := op) (tb := .ref C) hr.units0 hF I.ok.mod.kin J J'.type (by simp [PySem.W.notFirst]) M.at_ M.fn ?_
  have r2 : Vals [V.ref a, V.ref b] [Value.ref a, Value.ref b] := .cons rfl (.cons rfl .nil)
  refine wpAny_mono (run_in F hr rfl bi I r2 h) (fun u s' hq => ?_) fun _ _ x => x
  obtain ⟨v, H', I', rv, c, rfl, q⟩ := hq
  cases rv
  exact ⟨.bl c, H', I', rfl, q⟩
theorem op_eqO (D : Mf X.prog X.w X.K X.mg X.base k C "__eq__" q ps st sp) (hr : Room k X.A) : OpR X (compareOp .Eq) (rCmpO C sp) := by
  intro pins s σ H x y v u Q I rx ry h
  obtain ⟨a, b, dx, dy, fs, gs, rfl, rfl, ha, hb, h⟩ := h
  cases rx
  cases ry
  exact cmpO (op := .Eq) D hr I ha hb h
theorem op_neO (D : Mf X.prog X.w X.K X.mg X.base k C "__ne__" q ps st sp) (hr : Room k X.A) : OpR X (compareOp .NotEq) (rCmpO C sp) := by
  intro pins s σ H x y v u Q I rx ry h
  obtain ⟨a, b, dx, dy, fs, gs, rfl, rfl, ha, hb, h⟩ := h
  cases rx
  cases ry
  exact cmpO (op := .NotEq) D hr I ha hb h
/-- what isinstance asks of an instance of the class -/
structure InsT (K : PySem.W.Frag) (C : Addr) : Prop where
  ha : PySem.W.findIn K (.ref C) "__class__" = some (some (.builtin "object.__class__"))
  hn : PySem.W.specialIn K (.builtin "object.__class__") "__get__" = some (some (.builtin "getset_descriptor.__get__"))
  ht : PySem.W.takesIn K (.builtin "object.__class__") = some true
  hm : PySem.W.mroIn K C (.type "object") = some true
theorem relRefO (a : Addr) : RelV (.ref a) (.ref a) := rfl
theorem kit_same {K : PySem.W.Frag} (C : Addr) : PySem.W.kitOne K (.ref C) (.ref C) = some true := if_pos (beq_self_eq_true _)
theorem fldK {e : Expr} {f : Str} {pos : Pos} {ta : TE} (K : PySem.W.Frag) (he : PE X e ta) (hb : attributeBase e f X.env (eval e X.env) = eval e X.env := by rfl) (eK : X.K = K := by rfl) : PE X (.Attribute e f pos) (tFld K ta f) := by
  subst eK
  exact pe_fld he hb
end
end El
namespace El
open PySem PySem.Spec PyProof.Rows L2
section
variable {P : Program} {w : World} {K : PySem.W.Frag} {mg : Str → Option Value} {base : Heap}
abbrev s_check_first : Stmt := topS 5
abbrev N_check_first : List Str := ["j"]
abbrev P_check_first : List Str := ["j"]
theorem sc_check_first : FnScope N_check_first P_check_first (defScope s_check_first) := ⟨rfl, rfl, rfl, by decide +kernel, rfl, by decide +kernel, by decide +kernel⟩
def sp_check_first : Sp := fun vs H Q _ => ∃ j : Nat, vs = [.int (j : Int)] ∧ Q .non H
theorem ok_check_first (A : At K mg "check_first" P_check_first s_check_first) : Df P w K mg base 1 "check_first" P_check_first s_check_first sp_check_first := by
  refine A.df fun f fd F => F.ok sc_check_first (fun vs H Q E h => ?_) (fun cdv AA outer s H vs Q E hr h => ?_)
  · obtain ⟨_, rfl, _⟩ := h
    rfl
  · obtain ⟨j, rfl, q⟩ := h
    have nd := sc_check_first.nd
    refine ⟨_, (pss_one (ps_if (pt_cmpR op_lt (pv 0) pe_int (nomark _)) (pss_one ps_never) pss_nil)), ?_⟩
    refine ⟨_, rfl, _, _, rfl, rfl, _, rfl, ?_⟩
    rw [decide_eq_false (by omega)]
    exact iteF q
end
end El
namespace El
open PySem PySem.Spec PyProof.Rows L2
section
variable {P : Program} {w : World} {K : PySem.W.Frag} {mg : Str → Option Value} {base : Heap}
abbrev s_places : Stmt := topS 12
abbrev N_places : List Str := ["size", "patience"]
abbrev P_places : List Str := ["size", "patience"]
theorem sc_places : FnScope N_places P_places (defScope s_places) := ⟨rfl, rfl, rfl, by decide +kernel, rfl, by decide +kernel, by decide +kernel⟩
def sp_places : Sp := fun vs H Q _ => ∃ z p : Int, vs = [.int z, .int p] ∧ Q (.int (plc z p)) H
theorem ok_places (A : At K mg "places" P_places s_places) (B : Bi mg) : Df P w K mg base 1 "places" P_places s_places sp_places := by
  refine A.df fun f fd F => F.ok sc_places (fun vs H Q E h => ?_) (fun cdv AA outer s H vs Q E hr h => ?_)
  · obtain ⟨_, _, rfl, _⟩ := h
    rfl
  · obtain ⟨z, p, rfl, q⟩ := h
    have nd := sc_places.nd
    refine ⟨_, (pss_one (ps_ret (pe_callB (call_max2 rfl) (by rfl) B.max (by decide +kernel) (pa_cons pe_int (pa_cons (pe_op op_sub (pe_op op_add (pv 1) pe_int) (pv 0)) pa_nil))))), ?_⟩
    refine ⟨.int p, rfl, _, _, rfl, rfl, .int z, rfl, _, _, rfl, rfl, _, _, rfl, ?_⟩
    have e : (if p + 1 - z > 0 then p + 1 - z else 0) = plc z p := by
      unfold plc
      split <;> omega
    rw [e]
    exact q
end
end El
namespace El
open PySem PySem.Spec PyProof.Rows L2
section
variable {P : Program} {w : World} {K : PySem.W.Frag} {mg : Str → Option Value} {base : Heap}
abbrev s_grown_rooms : Stmt := topS 13
abbrev N_grown_rooms : List Str := ["size", "many", "patience", "taken", "full", "rest"]
abbrev P_grown_rooms : List Str := ["size", "many", "patience", "taken"]
theorem sc_grown_rooms : FnScope N_grown_rooms P_grown_rooms (defScope s_grown_rooms) := ⟨rfl, rfl, rfl, by decide +kernel, rfl, by decide +kernel, by decide +kernel⟩
theorem GsAt.of_paired {H : Hp} {B : Addr → Prop} {q : Addr} {ts : List Addr} {gs : List (Int × Int)} (e : H q = some (.lst (ts.map V.ref))) (hq : B q) (hb : ∀ t ∈ ts, B t) (p : Paired (fun (t : Addr) (g : Int × Int) => H t = some (.tup [.int g.1, .int g.2])) ts gs) : GsAt H B q ts gs := by
  refine ⟨e, hq, Paired.length p, fun i t g e1 e2 => ?_, hb⟩
  have key : ∀ {ts : List Addr} {gs : List (Int × Int)}, Paired (fun (t : Addr) (g : Int × Int) => H t = some (.tup [.int g.1, .int g.2])) ts gs → ∀ {i : Nat}, ts[i]? = some t → gs[i]? = some g → H t = some (.tup [.int g.1, .int g.2]) := by
    intro ts gs p
    induction p with
    | nil => exact fun e _ => by simp at e
    | cons r _ ih =>
      intro i e1 e2
      cases i with
      | zero =>
        obtain rfl := Option.some.inj e1
        obtain rfl := Option.some.inj e2
        exact r
      | succ i => exact ih e1 e2
  exact key p e1 e2
theorem short_div {x y : Int} (h0 : 0 < y) (h : y < 2 ^ 200) : Builtin.divisionGoesByPylong x y = false := by
  have hy : y.natAbs.log2 < 200 := (Nat.log2_lt (by omega)).mpr (by omega)
  unfold Builtin.divisionGoesByPylong
  rw [Bool.and_eq_false_iff]
  refine .inl (decide_eq_false ?_)
  have : (y == 0) = false := beq_eq_false_iff_ne.mpr (by omega)
  simp only [this]
  show ¬ (y.natAbs.log2 / 30 + 1 > 300)
  omega
def sp_grown_rooms : Sp := fun vs H Q _ => ∃ z c p k : Int, vs = [.int z, .int c, .int p, .int k] ∧ (k = 0 ∨ 0 < plc z p ∧ plc z p < 2 ^ 200) ∧ ∀ H' q us, Same H H' → GsAt H' (fun b => H b = none) q us (grownR z c p k) → Q (.ref q) H'
theorem ok_grown_rooms (A : At K mg "grown_rooms" P_grown_rooms s_grown_rooms) (B : Bi mg) (D_places : Df P w K mg base 1 "places" P_places s_places sp_places) : Df P w K mg base 2 "grown_rooms" P_grown_rooms s_grown_rooms sp_grown_rooms := by
  refine A.df fun f fd F => F.ok sc_grown_rooms (fun vs H Q E h => ?_) (fun cdv AA outer s H vs Q E hr h => ?_)
  · obtain ⟨_, _, _, _, rfl, _⟩ := h
    rfl
  · obtain ⟨z, c, p, k, rfl, hb, q⟩ := h
    have nd := sc_grown_rooms.nd
    refine ⟨_, (pss_cons (ps_if (pt_cmpR op_eq (pv 3) pe_int (nomark _)) (pss_one (ps_ret (pe_lst (pa_cons (pe_tup (pa_cons (pv 0) (pa_cons (pv 1) pa_nil))) pa_nil)))) pss_nil)
    (pss_cons (ps_asg (pe_callB call_divmodW (by rfl) B.divmod (by decide +kernel) (pa_cons (pv 3) (pa_cons (pe_df D_places (hr.mono (by decide)) (by rfl) (pa_cons (pv 0) (pa_cons (pv 2) pa_nil))) pa_nil))) (pg_tup (by rfl) (pgs_cons (pg_name (i := 4) nd rfl (.inl rfl)) (pgs_cons (pg_name (i := 5) nd rfl (.inl rfl)) pgs_nil))))
    (pss_cons (ps_if (pt_cmpR op_eq (pv 5) pe_int (nomark _)) (pss_one (ps_ret (pe_lst (pa_cons (pe_tup (pa_cons (pe_op op_add (pv 2) pe_int) (pa_cons (pv 4) pa_nil))) (pa_cons (pe_tup (pa_cons (pv 0) (pa_cons (pe_op op_sub (pv 1) (pv 4)) pa_nil))) pa_nil))))) pss_nil)
    (pss_one (ps_ret (pe_lst (pa_cons (pe_tup (pa_cons (pe_op op_add (pv 2) pe_int) (pa_cons (pv 4) pa_nil))) (pa_cons (pe_tup (pa_cons (pe_op op_add (pv 0) (pv 5)) (pa_cons pe_int pa_nil))) (pa_cons (pe_tup (pa_cons (pv 0) (pa_cons (pe_op op_sub (pe_op op_sub (pv 1) (pv 4)) pe_int) pa_nil))) pa_nil))))))))), ?_⟩
    unfold grownR at q
    refine ⟨.int k, rfl, rfl, _, rfl, ?_⟩
    by_cases k0 : k = 0
    · rw [if_pos k0] at q
      refine ifYes (by show decide (V.int k = V.int 0) = true; rw [k0]; rfl) ?_
      refine ⟨.int z, rfl, .int c, rfl, (by show 2 ≤ sizeLine; decide), fun t nt => ⟨(by show 1 ≤ sizeLine; decide), fun l nl => ?_⟩⟩
      have s1 := same_new (o := .tup [.int z, .int c]) nt
      have s2 := same_new (o := .lst [.ref t]) nl
      exact q _ l [t] (s1.trans s2) (GsAt.of_paired upd_same (s1.free nl) (fun b m => by rw [List.mem_singleton.mp m]; exact nt) (.cons (s2 _ _ upd_same) .nil))
    · rw [if_neg k0] at q
      refine ifNo (by show decide (V.int k = V.int 0) = false; simp [k0]) ?_
      obtain ⟨b0, b1⟩ := hb.resolve_left k0
      refine ⟨.int k, rfl, .int z, rfl, .int p, rfl, z, p, rfl, _, _, rfl, ⟨b0, short_div b0 b1⟩, fun D nD => ?_⟩
      have sD := same_new (o := .tup [.int (k / plc z p), .int (k % plc z p)]) nD
      refine ⟨D, _, rfl, SqT.of upd_same, rfl, .int (k / plc z p), _, rfl, .int (k % plc z p), _, rfl, rfl, ?_⟩
      refine ⟨.int (k % plc z p), rfl, rfl, _, rfl, ?_⟩
      by_cases k1 : k % plc z p = 0
      · rw [if_pos k1] at q
        refine ifYes (by show decide (V.int (k % plc z p) = V.int 0) = true; rw [k1]; rfl) ?_
        refine ⟨.int p, rfl, _, _, rfl, rfl, .int (k / plc z p), rfl, (by show 2 ≤ sizeLine; decide), fun t1 n1 => ?_⟩
        refine ⟨.int z, rfl, .int c, rfl, .int (k / plc z p), rfl, _, _, rfl, rfl, (by show 2 ≤ sizeLine; decide), fun t2 n2 => ⟨(by show 2 ≤ sizeLine; decide), fun l nl => ?_⟩⟩
        have s1 := same_new (o := .tup [.int (p + 1), .int (k / plc z p)]) n1
        have s2 := same_new (o := .tup [.int z, .int (c - k / plc z p)]) n2
        have s3 := same_new (o := .lst [.ref t1, .ref t2]) nl
        exact q _ l [t1, t2] (sD.trans (s1.trans (s2.trans s3))) (GsAt.of_paired upd_same (sD.free (s1.free (s2.free nl))) (fun b m => by
          rcases List.mem_cons.mp m with rfl | m
          · exact sD.free n1
          · rw [List.mem_singleton.mp m]
            exact sD.free (s1.free n2)) (.cons (s3 _ _ (s2 _ _ upd_same)) (.cons (s3 _ _ upd_same) .nil)))
      · rw [if_neg k1] at q
        refine ifNo (by show decide (V.int (k % plc z p) = V.int 0) = false; simp [k1]) ?_
        refine ⟨.int p, rfl, _, _, rfl, rfl, .int (k / plc z p), rfl, (by show 2 ≤ sizeLine; decide), fun t1 n1 => ?_⟩
        refine ⟨.int z, rfl, .int (k % plc z p), rfl, _, _, rfl, rfl, (by show 2 ≤ sizeLine; decide), fun t2 n2 => ?_⟩
        refine ⟨.int z, rfl, .int c, rfl, .int (k / plc z p), rfl, _, _, rfl, rfl, _, _, rfl, rfl, (by show 2 ≤ sizeLine; decide), fun t3 n3 => ⟨(by show 3 ≤ sizeLine; decide), fun l nl => ?_⟩⟩
        have s1 := same_new (o := .tup [.int (p + 1), .int (k / plc z p)]) n1
        have s2 := same_new (o := .tup [.int (z + k % plc z p), .int 1]) n2
        have s3 := same_new (o := .tup [.int z, .int (c - k / plc z p - 1)]) n3
        have s4 := same_new (o := .lst [.ref t1, .ref t2, .ref t3]) nl
        exact q _ l [t1, t2, t3] (sD.trans (s1.trans (s2.trans (s3.trans s4)))) (GsAt.of_paired upd_same (sD.free (s1.free (s2.free (s3.free nl)))) (fun b m => by
          rcases List.mem_cons.mp m with rfl | m
          · exact sD.free n1
          rcases List.mem_cons.mp m with rfl | m
          · exact sD.free (s1.free n2)
          · rw [List.mem_singleton.mp m]
            exact sD.free (s1.free (s2.free n3))) (.cons (s4 _ _ (s3 _ _ (s2 _ _ upd_same))) (.cons (s4 _ _ (s3 _ _ upd_same)) (.cons (s4 _ _ upd_same) .nil))))
end
end El
namespace El
open PySem PySem.Spec PyProof.Rows L2
section
variable {P : Program} {w : World} {K : PySem.W.Frag} {mg : Str → Option Value} {base : Heap}
abbrev s_after_crowd : Stmt := topS 11
abbrev N_after_crowd : List Str := ["filled", "count", "patience", "many_of", "left", "size", "many", "taken", "grown", "alike"]
abbrev P_after_crowd : List Str := ["filled", "count", "patience"]
theorem sc_after_crowd : FnScope N_after_crowd P_after_crowd (defScope s_after_crowd) := ⟨rfl, rfl, rfl, by decide +kernel, rfl, by decide +kernel, by decide +kernel⟩
theorem nodup_len : ∀ {l m : List Int}, l.Nodup → (∀ x ∈ l, x ∈ m) → l.length ≤ m.length
  | [], _, _, _ => Nat.zero_le _
  | x :: l, m, nd, h => by
    have ⟨n1, n2⟩ := List.nodup_cons.mp nd
    have mx := h x List.mem_cons_self
    have k := nodup_len (l := l) (m := m.erase x) n2 fun y my => (List.mem_erase_of_ne (show y ≠ x from fun e => n1 (by rw [← e]; exact my))).mpr (h y (List.mem_cons_of_mem _ my))
    rw [List.length_erase_of_mem mx] at k
    have := List.length_pos_of_mem mx
    show l.length + 1 ≤ m.length
    omega
def sp_after_crowd : Sp := fun vs H Q _ => ∃ (B : Addr → Prop) (a : Addr) (ts : List Addr) (R : List (Int × Int)) (L : List Int) (n p : Int), vs = [.ref a, .int n, .int p] ∧ GsAt H B a ts R ∧ Rle R L ∧ 0 ≤ n ∧ 0 ≤ p ∧ n < 2 ^ 190 ∧ p < 2 ^ 190 ∧ (∀ r ∈ R, r.2 < 2 ^ 190) ∧ R.length ≤ 1000 ∧
  ∀ (H' : Hp) (q : Addr) (us : List Addr) (R' : List (Int × Int)), Same H H' → GsAt H' (fun b => H b = none) q us R' → Rle R' (sitN p n.toNat L) → R'.length ≤ R.length + 3 → Q (.ref q) H'
theorem ok_after_crowd (A : At K mg "after_crowd" P_after_crowd s_after_crowd) (B : Bi mg) (D_places : Df P w K mg base 1 "places" P_places s_places sp_places) (D_grown_rooms : Df P w K mg base 2 "grown_rooms" P_grown_rooms s_grown_rooms sp_grown_rooms) : Df P w K mg base 3 "after_crowd" P_after_crowd s_after_crowd sp_after_crowd := by
  refine A.df fun f fd F => F.ok sc_after_crowd (fun vs H Q E h => ?_) (fun cdv AA outer s H vs Q E hr h => ?_)
  · obtain ⟨_, _, _, _, _, _, _, rfl, _⟩ := h
    rfl
  · obtain ⟨BB, a, ts, R, L, n, p, rfl, hG, hR, hn, hp, ln, lp, lR, hl, q⟩ := h
    have nd := sc_after_crowd.nd
    refine ⟨_, (pss_cons (ps_set (i := 3) nd rfl (.inl rfl) pe_dnewK)
    (pss_cons (ps_set (i := 4) nd rfl (.inl rfl) (pv 1))
    (pss_cons (ps_for PassesOwn.never rfl (pi_list (pe_lst (StX.pa_star (pv 0) (pa_cons (pe_tup (pa_cons pe_int (pa_cons (pv 1) pa_nil))) pa_nil)))) (pg_tup (by rfl) (pgs_cons (pg_name (i := 5) nd rfl (.inl rfl)) (pgs_cons (pg_name (i := 6) nd rfl (.inl rfl)) pgs_nil))) (pss_cons (ps_set (i := 7) nd rfl (.inl rfl) (pe_callB (call_min2 rfl) (by rfl) B.min (by decide +kernel) (pa_cons (pv 4) (pa_cons (pe_op op_mulW (pv 6) (pe_df D_places (hr.mono (by decide)) (by rfl) (pa_cons (pv 5) (pa_cons (pv 2) pa_nil)))) pa_nil)))) (pss_cons (ps_aug (i := 4) nd rfl (.inl rfl) (pv 7) ip_sub) (pss_one (ps_for PassesOwn.never rfl (pi_list (pe_df D_grown_rooms (hr.mono (by decide)) (by rfl) (pa_cons (pv 5) (pa_cons (pv 6) (pa_cons (pv 2) (pa_cons (pv 7) pa_nil)))))) (pg_tup (by rfl) (pgs_cons (pg_name (i := 8) nd rfl (.inl rfl)) (pgs_cons (pg_name (i := 9) nd rfl (.inl rfl)) pgs_nil))) (pss_one (ps_dput (hu_of hr) (pv 3) (pv 8) (pe_op op_add (pe_dget2 (hu_of hr) (pv 3) (pv 8) pe_int ⟨rfl, rfl, rfl, rfl⟩) (pv 9)) rfl)))))))
    (pss_one (ps_ret (pe_callBK (cr_sortedPK (b := true) rfl) (by rfl) B.sorted (by decide +kernel) (pa_cons (pe_lock (pe_lc (own := [("size", 5), ("many", 6)]) rfl nd (pi_items (pv 3)) (blkOk_by (N := N_after_crowd) (sc := defScope s_after_crowd) (by decide +kernel)) (fun _ _ _ _ _ => (pgTupK K 2 (by rfl) (pgs_cons (pg_name (i := 5) nd rfl (.inl rfl)) (pgs_cons (pg_name (i := 6) nd rfl (.inl rfl)) pgs_nil)))) (fun _ _ _ _ _ => (pts_one (PW.pt (pw_and (pt_cmpR op_gt (pv 5) pe_int (nomark _)) (pw_and1 (pt_cmpR op_gt (pv 6) pe_int (nomark _))))))) (fun _ _ _ _ _ => (pe_tup (pa_cons (pv 5) (pa_cons (pv 6) pa_nil)))))) pa_nil) (pk_cons pe_bl pk_nil))))))), ?_⟩
    -- many_of = {}
    refine fun d nd => ?_
    have s1 := same_new (o := .dK []) nd
    have G1 := hG.same s1
    refine ⟨.int n, rfl, ?_⟩
    dsimp only [gName]
    -- for size, many in [*filled, (0, count)]
    refine seq_to (fun σ H9 => ∃ y5 y6 y7 y8 y9 left gs E, σ = [some (.ref a), some (.int n), some (.int p), some (.ref d), some (.int left), y5, y6, y7, y8, y9] ∧ Kp (fun b => b ≠ d) H H9 ∧ H9 d = some (.dK (pks gs)) ∧ (∀ b, H9 b = none → H b = none) ∧ Hist gs E ∧ pour p n (ex (R ++ [(0, n)])) = ex E ∧ gs.length ≤ R.length + 3) (fun X hX => ?_) (fun σ H9 hE => ?_)
    · refine ⟨.ref a, rfl, a, ts.map V.ref, rfl, .inr G1.seq, .int n, rfl, (by show 2 ≤ sizeLine; decide), fun tt ntt => ⟨?_, fun l nl => ⟨l, rfl, ⟨_, SqL.of upd_same⟩, ?_⟩⟩⟩
      · rw [List.length_append, List.length_map, hG.len]
        show R.length + 1 ≤ sizeLine
        exact Nat.le_of_lt (ils (by omega))
      have s2 := same_new (o := .tup [.int 0, .int n]) ntt
      have s3 := same_new (o := .lst (ts.map V.ref ++ [.ref tt])) nl
      have GL := ((G1.same s2).same s3).cat (q := tt) (g := (0, n)) (l := l) (s3 _ _ upd_same) upd_same
      have k0 : Kp (fun b => b ≠ d) H (upd (upd (upd H d (.dK [])) tt (.tup [.int 0, .int n])) l (.lst (ts.map V.ref ++ [.ref tt]))) := .of (s1.trans (s2.trans s3))
      have e0 : (upd (upd (upd H d (.dK [])) tt (.tup [.int 0, .int n])) l (.lst (ts.map V.ref ++ [.ref tt]))) d = some (.dK (pks [])) := s3 _ _ (s2 _ _ upd_same)
      have v0 : ∀ b, (upd (upd (upd H d (.dK [])) tt (.tup [.int 0, .int n])) l (.lst (ts.map V.ref ++ [.ref tt]))) b = none → H b = none := fun b e => s1.free (s2.free (s3.free e))
      have dl : ∀ b, (b = l ∨ b ∈ ts ++ [tt]) → b ≠ d := fun b m z => by
        rcases m with m | m
        · rw [← m, z] at nl
          rw [s2 _ _ upd_same] at nl
          cases nl
        · obtain ⟨i, ei⟩ := List.mem_iff_getElem?.mp m
          have hl' := at_lt ei
          rw [GL.len] at hl'
          obtain ⟨g, eg⟩ := at_some hl'
          have := GL.at' i b g ei eg
          rw [z, e0] at this
          cases this
      have GLd := GL.reB (B' := fun b => b ≠ d) fun b m _ => dl b m
      revert GLd k0 e0 v0
      generalize upd (upd (upd H d (.dK [])) tt (.tup [.int 0, .int n])) l (.lst (ts.map V.ref ++ [.ref tt])) = HL
      clear GL dl
      intro k0 e0 v0 GLd
      have hRR : ∀ r ∈ R ++ [(0, n)], 0 ≤ r.1 ∧ 0 ≤ r.2 ∧ r.2 < 2 ^ 190 := fun r m => by
        rcases List.mem_append.mp m with m | m
        · have := hR.p r m
          exact ⟨by omega, by omega, lR r m⟩
        · rw [List.mem_singleton.mp m]
          exact ⟨Int.le_refl _, hn, ln⟩
      generalize hRRe : R ++ [(0, n)] = RR at GLd hRR hX ⊢
      have lRR : RR.length = R.length + 1 := by rw [← hRRe, List.length_append]; rfl
      refine for_it (walk_list (xs := ts.map V.ref ++ [.ref tt])) (fun i σ H2 => ∃ y5 y6 y7 y8 y9 left gs E W, σ = [some (.ref a), some (.int n), some (.int p), some (.ref d), some (.int left), y5, y6, y7, y8, y9] ∧ Kp (fun b => b ≠ d) HL H2 ∧ H2 d = some (.dK (pks gs)) ∧ (∀ b, H2 b = none → HL b = none) ∧ Hist gs E ∧
        pour p n (ex RR) = ex E ++ pour p left (ex (RR.drop i)) ∧ 0 ≤ left ∧ left ≤ n ∧ (∀ y ∈ gs.map (·.1), y ∈ (RR.take i).map (·.1) ++ [p + 1] ++ W) ∧ W.length ≤ 1 ∧ (W ≠ [] → left = 0))
        ⟨_, _, _, _, _, n, [], [], [], rfl, .refl, e0, fun _ e => e, Hist.nil, rfl, hn, Int.le_refl _, (fun y m => (List.not_mem_nil m).elim), Nat.zero_le _, fun h => absurd rfl h⟩ (fun i σ H2 _ hW => ?_) (fun i v σ H2 H3 hi hW hY => ?_) (fun σ H2 hW => ?_)
      · obtain ⟨_, _, _, _, _, _, _, _, _, _, k, _⟩ := hW
        have := (GLd.keep k).seq (K := K)
        rw [List.map_append] at this
        exact this
      · obtain ⟨y5, y6, y7, y8, y9, left, gs, E, W, rfl, k2, e2, v2, hH, hP, h0, h1, hK, hW1, hW2⟩ := hW
        obtain ⟨rfl, hx⟩ := hY
        obtain ⟨t, ⟨z, c⟩, rfl, eg, et⟩ := (GLd.keep k2).get (by rw [List.map_append]; exact hx)
        obtain ⟨z0, c0, c1⟩ := hRR _ (List.mem_of_getElem? eg)
        refine ⟨t, _, rfl, SqT.of et, rfl, .int z, _, rfl, .int c, _, rfl, rfl, ?_⟩
        have pl0 := plc_nn z p
        have pl1 : plc z p < 2 ^ 191 := by
          unfold plc
          omega
        refine ⟨.int left, rfl, .int c, rfl, .int z, rfl, .int p, rfl, z, p, rfl, _, _, rfl, rfl, ?_, _, _, rfl, ?_⟩
        · have a1 : c.natAbs.log2 ≤ 200 := by
            by_cases hc : c = 0
            · rw [hc]
              decide
            · exact Nat.le_of_lt ((Nat.log2_lt (by omega)).mpr (by omega))
          have a2 : (plc z p).natAbs.log2 ≤ 200 := by
            by_cases hc : plc z p = 0
            · rw [hc]
              decide
            · exact Nat.le_of_lt ((Nat.log2_lt (by omega)).mpr (by omega))
          show c.natAbs.log2 + (plc z p).natAbs.log2 < 1000000
          omega
        have hk : (if c * plc z p < left then c * plc z p else left) = min left (c * plc z p) := by split <;> omega
        rw [hk]
        have hcb : 0 ≤ c * plc z p := Int.mul_nonneg c0 pl0
        have hrun : pour p left (ex (RR.drop i)) = ex (grownR z c p (min left (c * plc z p))) ++ pour p (left - min left (c * plc z p)) (ex (RR.drop (i + 1))) := by
          obtain ⟨hi', ei'⟩ := List.getElem?_eq_some_iff.mp eg
          rw [List.drop_eq_getElem_cons hi', ei', ex_cons]
          have := pour_run (p := p) (z := z) (c := c.toNat) (n := left) (X := ex (RR.drop (i + 1))) h0
          rw [show ((c.toNat : Nat) : Int) = c by omega] at this
          exact this
        have hkz : min left (c * plc z p) = 0 ∨ 0 < plc z p := by
          by_cases hz : plc z p = 0
          · left
            rw [hz, Int.mul_zero]
            omega
          · right
            omega
        have hw : min left (c * plc z p) % plc z p ≠ 0 → left - min left (c * plc z p) = 0 := fun h => by
          by_cases hlt : c * plc z p < left
          · rw [show min left (c * plc z p) = c * plc z p by omega, Int.mul_emod_left] at h
            exact absurd rfl h
          · omega
        have hk1 : 0 ≤ min left (c * plc z p) ∧ min left (c * plc z p) ≤ left := by omega
        have hkc : min left (c * plc z p) ≤ c * plc z p := by omega
        clear hk
        generalize min left (c * plc z p) = k at hrun hkz hw hk1 hkc ⊢
        dsimp only [gName]
        -- left -= taken
        refine ⟨.int left, rfl, .int k, rfl, left, k, rfl, rfl, ?_⟩
        -- for grown, alike in grown_rooms(..)
        refine ⟨.int z, rfl, .int c, rfl, .int p, rfl, .int k, rfl, z, c, p, k, rfl, hkz.imp id fun h => ⟨h, by omega⟩, fun H4 l4 us4 s4 G4 => ⟨l4, rfl, ⟨_, G4.seq⟩, ?_⟩⟩
        have e4 := s4 _ _ e2
        have d4 : H3 d ≠ none := fun e => by rw [e2] at e; cases e
        have G4d := G4.weaken (B' := fun b => b ≠ d) fun b e z => d4 (z ▸ e)
        have hpc : ∀ r ∈ grownR z c p k, 0 ≤ r.2 := by
          intro r m
          have hq : 0 ≤ k / plc z p := Int.ediv_nonneg hk1.1 pl0
          unfold grownR at m
          by_cases k0 : k = 0
          · rw [if_pos k0, List.mem_singleton] at m
            rw [m]
            exact c0
          rw [if_neg k0] at m
          have b0 := hkz.resolve_left k0
          have h5 : k / plc z p ≤ c := by
            have := Int.ediv_le_ediv b0 hkc
            rw [Int.mul_ediv_cancel _ (by omega)] at this
            exact this
          by_cases k1 : k % plc z p = 0
          · rw [if_pos k1] at m
            rcases List.mem_cons.mp m with m | m
            · rw [m]
              exact hq
            · rw [List.mem_singleton.mp m]
              show 0 ≤ c - k / plc z p
              omega
          · rw [if_neg k1] at m
            have h6 : k / plc z p < c := by
              refine Int.ediv_lt_of_lt_mul b0 ?_
              rcases Int.lt_or_lt_of_ne (show k ≠ c * plc z p from fun e => k1 (by rw [e, Int.mul_emod_left])) with h | h
              · exact h
              · omega
            rcases List.mem_cons.mp m with m | m
            · rw [m]
              exact hq
            rcases List.mem_cons.mp m with m | m
            · rw [m]
              show (0 : Int) ≤ 1
              decide
            · rw [List.mem_singleton.mp m]
              show 0 ≤ c - k / plc z p - 1
              omega
        have hkeys : ∃ W', W'.length ≤ 1 ∧ (W' ≠ [] → left - k = 0) ∧ (∀ y ∈ (RR.take i).map (·.1) ++ [p + 1] ++ W, y ∈ (RR.take (i + 1)).map (·.1) ++ [p + 1] ++ W') ∧ ∀ y ∈ (grownR z c p k).map (·.1), y ∈ (RR.take (i + 1)).map (·.1) ++ [p + 1] ++ W' := by
          have ht : (RR.take (i + 1)).map (·.1) = (RR.take i).map (·.1) ++ [z] := by rw [take_snoc eg, List.map_append]; rfl
          have old_ : ∀ {W2 : List Int}, (∀ y ∈ W, y ∈ W2) → ∀ y ∈ (RR.take i).map (·.1) ++ [p + 1] ++ W, y ∈ (RR.take (i + 1)).map (·.1) ++ [p + 1] ++ W2 := fun hs y m => by
            rw [ht]
            simp only [List.mem_append] at m ⊢
            rcases m with (m | m) | m
            · exact .inl (.inl (.inl m))
            · exact .inl (.inr m)
            · exact .inr (hs y m)
          have zin : ∀ W2 : List Int, z ∈ (RR.take (i + 1)).map (·.1) ++ [p + 1] ++ W2 := fun W2 => by
            rw [ht]
            simp only [List.mem_append, List.mem_singleton]
            exact .inl (.inl (.inr trivial))
          have pin : ∀ W2 : List Int, p + 1 ∈ (RR.take (i + 1)).map (·.1) ++ [p + 1] ++ W2 := fun W2 => by
            simp only [List.mem_append, List.mem_singleton]
            exact .inl (.inr trivial)
          unfold grownR
          by_cases k0 : k = 0
          · rw [if_pos k0]
            refine ⟨W, hW1, fun h => by rw [hW2 h, k0]; rfl, old_ fun y m => m, fun y m => ?_⟩
            rw [List.mem_singleton.mp m]
            exact zin W
          rw [if_neg k0]
          have wn : W = [] := by
            cases W with
            | nil => rfl
            | cons x W =>
              have := hW2 (List.cons_ne_nil x W)
              omega
          by_cases k1 : k % plc z p = 0
          · rw [if_pos k1]
            refine ⟨W, hW1, fun h => absurd wn h, old_ fun y m => m, fun y m => ?_⟩
            rcases List.mem_cons.mp m with m | m
            · rw [m]
              exact pin W
            · rw [List.mem_singleton.mp m]
              exact zin W
          · rw [if_neg k1]
            refine ⟨[z + k % plc z p], Nat.le_refl _, fun _ => hw k1, old_ fun y m => by rw [wn] at m; exact (List.not_mem_nil m).elim, fun y m => ?_⟩
            rcases List.mem_cons.mp m with m | m
            · rw [m]
              exact pin _
            rcases List.mem_cons.mp m with m | m
            · rw [m]
              exact List.mem_append_right _ (List.mem_singleton.mpr rfl)
            · rw [List.mem_singleton.mp m]
              exact zin _
        obtain ⟨W', w1, w2, w3, w4⟩ := hkeys
        have lpc : (grownR z c p k).length ≤ 3 := by
          unfold grownR
          split
          · exact Nat.le_add_left 1 2
          · split
            · exact Nat.le_add_left 2 1
            · exact Nat.le_refl 3
        generalize hpe : grownR z c p k = pcs at G4 G4d hpc w4 hrun lpc
        refine for_it (walk_list (xs := us4.map V.ref)) (fun j σ H5 => ∃ y8 y9 gs5, σ = [some (.ref a), some (.int n), some (.int p), some (.ref d), some (.int (left - k)), some (.int z), some (.int c), some (.int k), y8, y9] ∧ Kp (fun b => b ≠ d) H4 H5 ∧ H5 d = some (.dK (pks gs5)) ∧ (∀ b, H5 b = none → H4 b = none) ∧ Hist gs5 (E ++ pcs.take j) ∧ (∀ y ∈ gs5.map (·.1), y ∈ (RR.take (i + 1)).map (·.1) ++ [p + 1] ++ W'))
          ⟨_, _, gs, rfl, .refl, e4, fun _ e => e, by rw [List.take_zero, List.append_nil]; exact hH, fun y m => w3 y (hK y m)⟩ (fun j σ H5 _ hV => ?_) (fun j v σ H5 H6 hj hV hY => ?_) (fun σ H5 hV => ?_)
        · obtain ⟨_, _, _, _, k5, _⟩ := hV
          exact (G4d.keep k5).seq
        · obtain ⟨y8, y9, gs5, rfl, k5, e5, v5, hH5, hK5⟩ := hV
          obtain ⟨rfl, hx5⟩ := hY
          obtain ⟨t5, ⟨y, c'⟩, rfl, eg5, et5⟩ := (G4d.keep k5).get hx5
          have l5 : gs5.length ≤ 1010 := by
            have := nodup_len hH5.nd hK5
            rw [List.length_map, List.length_append, List.length_append, List.length_map, List.length_take] at this
            have h1 : ([p + 1] : List Int).length = 1 := rfl
            omega
          refine ⟨t5, _, rfl, SqT.of et5, rfl, .int y, _, rfl, .int c', _, rfl, rfl, ?_⟩
          have hv := val_pof hH5.nd y
          refine ⟨.ref d, rfl, d, rfl, .inl ⟨_, .inl e5⟩, .int y, rfl, _, DGet.k (k := Sum.inl y) e5, .int c', rfl, _, _, hv, rfl, .ref d, rfl, .int y, rfl, d, _, rfl, DPut.k (k := Sum.inl y) e5 (ils (by rw [pks_len]; omega)), ?_⟩
          rw [putG_pks]
          have hput := hH5.put (y := y) (c := c') (hpc _ (List.mem_of_getElem? eg5))
          rw [List.append_assoc, ← take_snoc eg5] at hput
          refine ⟨_, _, _, rfl, k5.mut (fun z => z rfl), upd_same, fun b e => ?_, hput, fun x mx => ?_⟩
          · by_cases hb : b = d
            · rw [hb, upd_same] at e
              cases e
            · rw [upd_ne hb] at e
              exact v5 b e
          · rw [putG_keys] at mx
            by_cases hm : y ∈ gs5.map (·.1)
            · rw [if_pos hm] at mx
              exact hK5 x mx
            · rw [if_neg hm] at mx
              rcases List.mem_append.mp mx with mx | mx
              · exact hK5 x mx
              · rw [List.mem_singleton.mp mx]
                exact w4 y (List.mem_map_of_mem (f := Prod.fst) (List.mem_of_getElem? eg5))
        · obtain ⟨y8, y9, gs5, rfl, k5, e5, v5, hH5, hK5⟩ := hV
          rw [List.length_map, G4.len, List.take_length] at hH5
          refine ⟨_, _, _, _, _, left - k, gs5, E ++ pcs, W', rfl, (k2.trans (.of s4)).trans k5, e5, fun b e => v2 b (s4.free (v5 b e)), hH5, ?_, by omega, by omega, hK5, w1, w2⟩
          rw [hP, hrun, ex_append, List.append_assoc]
      · obtain ⟨y5, y6, y7, y8, y9, left, gs, E, W, rfl, k2, e2, v2, hH, hP, h0, h1, hK, hW1, hW2⟩ := hW
        refine hX _ _ ⟨_, _, _, _, _, left, gs, E, rfl, k0.trans k2, e2, fun b e => v0 b (v2 b e), hH, ?_, ?_⟩
        · have lw : (ts.map V.ref ++ [V.ref tt]).length = RR.length := by
            rw [List.length_append, List.length_map, hG.len, lRR]
            rfl
          rw [hP, lw, List.drop_length]
          show ex E ++ [] = ex E
          exact List.append_nil _
        · have := nodup_len hH.nd hK
          rw [List.length_map, List.length_append, List.length_append, List.length_map, List.length_take] at this
          have h1 : ([p + 1] : List Int).length = 1 := rfl
          omega
    · obtain ⟨y5, y6, y7, y8, y9, left, gs, E, rfl, k9, e9, v9, hH, hP, lgs⟩ := hE
      -- [(size, many) for size, many in many_of.items() if size > 0 and many > 0]
      refine ⟨d, .dK (pks gs), e9, trivial, fun od => ⟨.ref d, rfl, d, od, pks gs, rfl, upd_same, fun D nD => ?_⟩⟩
      have dD : D ≠ d := fun z => by rw [z, upd_same] at nD; cases nD
      refine lc_it (walk_items (kvs := pks gs)) (fun k Hb => Kp (fun b => b ≠ D) (upd H9 d (.frz od (.dK (pks gs)))) Hb ∧ (∀ b, Hb b = none → upd H9 d (.frz od (.dK (pks gs))) b = none) ∧ ∃ us, GsAt Hb (fun b => upd H9 d (.frz od (.dK (pks gs))) b = none) D us ((gs.take k).filter live)) ⟨Kp.mut Kp.refl fun z => z rfl, fun b e => ?_, [], upd_same, nD, rfl, fun i t g e _ => by simp at e, fun t m => (List.not_mem_nil m).elim⟩ (fun k Hb _ hW => ?_) (fun k v Hb Hc hk hW hY => ?_) (fun Hb hW => ?_)
      · by_cases hb : b = D
        · rw [hb, upd_same] at e
          cases e
        · rw [upd_ne hb] at e
          exact e
      · exact hW.1 _ _ dD.symm upd_same
      · obtain ⟨kb, vb, us, Gb⟩ := hW
        obtain ⟨U, x1, x2, rfl, nU, rfl, f1, f2⟩ := hY
        rw [pks_len] at hk
        obtain ⟨g, eg⟩ := at_some hk
        have ep : (pks gs)[k]? = some ((Sum.inl g.1 : L2.Key), V.int g.2) := by
          rw [show pks gs = gs.map fun g => ((Sum.inl g.1 : L2.Key), V.int g.2) from rfl, List.getElem?_map, eg]
          rfl
        dsimp only at f1 f2
        rw [ep] at f1 f2
        obtain rfl : V.int g.1 = x1 := Option.some.inj f1
        obtain rfl : V.int g.2 = x2 := Option.some.inj f2
        have sU := same_new (o := .tup [V.int g.1, .int g.2]) nU
        have kU := kb.trans (.of sU)
        have vU : ∀ b, (upd Hb U (.tup [V.int g.1, .int g.2])) b = none → upd H9 d (.frz od (.dK (pks gs))) b = none := fun b e => vb b (sU.free e)
        have GU := Gb.same sU
        refine ⟨U, [.int g.1, .int g.2], rfl, SqT.of upd_same, rfl, .int g.1, [.int g.2], rfl, .int g.2, [], rfl, rfl, rfl, ?_⟩
        clear Gb kb vb sU
        revert kU vU GU
        generalize upd Hb U (.tup [V.int g.1, .int g.2]) = Hc
        intro kU vU GU
        have no : ¬ (0 < g.1 ∧ 0 < g.2) → (gs.take (k + 1)).filter live = (gs.take k).filter live := fun h => by
          rw [take_snoc eg, List.filter_append, List.filter_cons_of_neg (by
            unfold live
            rw [Bool.and_eq_true, decide_eq_true_iff, decide_eq_true_iff]
            exact h), List.filter_nil, List.append_nil]
        refine ⟨.int g.1, rfl, _, _, rfl, rfl, _, rfl, ?_⟩
        by_cases h1 : 0 < g.1
        · refine ifYes (decide_eq_true h1) ⟨.int g.2, rfl, _, _, rfl, rfl, _, rfl, ?_⟩
          by_cases h2 : 0 < g.2
          · refine ifYes (decide_eq_true h2) ⟨.int g.1, rfl, .int g.2, rfl, (by show 2 ≤ sizeLine; decide), fun T nT => ?_⟩
            have sT := same_new (o := .tup [V.int g.1, .int g.2]) nT
            have GT := GU.same sT
            refine ⟨_, GT.top, ils ?_, (kU.trans (.of sT)).mut fun z => z rfl, fun b e => ?_, us ++ [T], ?_⟩
            · have := List.length_filter_le live (gs.take k)
              rw [List.length_take] at this
              rw [List.length_map, GT.len]
              omega
            · by_cases hb : b = D
              · rw [hb, upd_same] at e
                cases e
              · rw [upd_ne hb] at e
                exact vU b (sT.free e)
            · have hD : D ∉ us := fun m => by
                obtain ⟨i, ei⟩ := List.mem_iff_getElem?.mp m
                have hl' := at_lt ei
                rw [GT.len] at hl'
                obtain ⟨x, ex'⟩ := at_some hl'
                have := GT.at' i D x ei ex'
                rw [GT.top] at this
                cases this
              rw [take_snoc eg, List.filter_append, List.filter_cons_of_pos (by
                unfold live
                rw [decide_eq_true h1, decide_eq_true h2]
                rfl), List.filter_nil]
              exact GT.push hD (q := T) (g := g) upd_same (vU T nT)
          · refine ifNo (decide_eq_false h2) ?_
            rw [no fun h => h2 h.2]
            exact ⟨kU, vU, us, GU⟩
        · refine ifNo (decide_eq_false h1) ?_
          rw [no fun h => h1 h.1]
          exact ⟨kU, vU, us, GU⟩
      · obtain ⟨kb, vb, us, Gb⟩ := hW
        rw [pks_len, List.take_length] at Gb
        have ed : Hb d = some (.frz od (.dK (pks gs))) := kb _ _ dD.symm upd_same
        refine ⟨ed, ?_⟩
        have nd9 : ∀ b, upd H9 d (.frz od (.dK (pks gs))) b = none → b ≠ d ∧ H9 b = none := fun b e => by
          have : b ≠ d := fun z => by rw [z, upd_same] at e; cases e
          rw [upd_ne this] at e
          exact ⟨this, e⟩
        have Gu : GsAt (upd Hb d (.dK (pks gs))) (fun b => upd H9 d (.frz od (.dK (pks gs))) b = none) D us (gs.filter live) := Gb.keep (Kp.mut Kp.refl fun e => (nd9 d e).1 rfl)
        have lu : ∀ b, upd Hb d (.dK (pks gs)) b = none → upd H9 d (.frz od (.dK (pks gs))) b = none := fun b e => by
          by_cases z : b = d
          · rw [z, upd_same] at e
            cases e
          · rw [upd_ne z] at e
            exact vb b e
        have su : Same H (upd Hb d (.dK (pks gs))) := fun b u e => by
          have b1 : b ≠ d := fun z => by rw [z, nd] at e; cases e
          have b2 : b ≠ D := fun z => by
            have := v9 D (nd9 D nD).2
            rw [z, this] at e
            cases e
          rw [upd_ne b1]
          refine kb b u b2 ?_
          rw [upd_ne b1]
          exact k9 b u b1 e
        refine ⟨D, _, prOf (upd Hb d (.dK (pks gs))), rfl, rfl, Gu.seq, Gu.mem, fun ys p2 hs hb np2 => ?_⟩
        have eM : sitN p n.toNat L = pos (ex E) := by
          have lp' : ∀ s ∈ L, 0 < s := fun s m => by
            rw [hR.e] at m
            obtain ⟨r, mr, er⟩ := ex_mem m
            rw [← er]
            exact (hR.p r mr).1
          have := pour_sit hp (n := n.toNat) (m := n.toNat) (Nat.le_refl _) lp'
          rw [← this, ← hP, ex_append, ← hR.e, show ((n.toNat : Nat) : Int) = n by omega, ex_cons, ex_nil, List.append_nil]
        obtain ⟨Ff, Rl⟩ := hH.rle eM (sitN_dn hp (by rw [hR.e]; exact ex_dn hR.d))
        have hys := sorted_down Ff Gu.prs hs hb
        rw [if_pos rfl]
        have s3 : Same (upd Hb d (.dK (pks gs))) (upd (upd Hb d (.dK (pks gs))) p2 (.lst ys.reverse)) := same_new np2
        obtain ⟨us4, G4, _, hus⟩ := Gu.sortedN (H' := upd (upd Hb d (.dK (pks gs))) p2 (.lst ys.reverse)) (p := p2) (zs := ys.reverse) s3 ((List.reverse_perm ys).trans hb) hys upd_same
        refine q _ p2 us4 _ (su.trans s3) (G4.reB fun b m _ => ?_) Rl ?_
        · rcases m with m | m
          · rw [m]
            exact v9 _ (nd9 _ (lu _ np2)).2
          · exact v9 _ (nd9 _ (Gu.b b (hus b m))).2
        · rw [byAge_length]
          exact Nat.le_trans (List.length_filter_le _ _) lgs
end
end El
namespace El
open PySem PySem.Spec PyProof.Rows L2
section
variable {P : Program} {w : World} {K : PySem.W.Frag} {mg : Str → Option Value} {base : Heap}
abbrev s_is_crowd : Stmt := topS 6
abbrev N_is_crowd : List Str := ["count", "patience"]
abbrev P_is_crowd : List Str := ["count", "patience"]
theorem sc_is_crowd : FnScope N_is_crowd P_is_crowd (defScope s_is_crowd) := ⟨rfl, rfl, rfl, by decide +kernel, rfl, by decide +kernel, by decide +kernel⟩
def sp_is_crowd : Sp := fun vs H Q _ => ∃ c p : Int, vs = [.int c, .int p] ∧ Q (.bl (decide (1 ≤ c) && decide (0 ≤ p))) H
theorem ok_is_crowd (A : At K mg "is_crowd" P_is_crowd s_is_crowd) : Df P w K mg base 1 "is_crowd" P_is_crowd s_is_crowd sp_is_crowd := by
  refine A.df fun f fd F => F.ok sc_is_crowd (fun vs H Q E h => ?_) (fun cdv AA outer s H vs Q E hr h => ?_)
  · obtain ⟨_, _, rfl, _⟩ := h
    rfl
  · obtain ⟨c, p, rfl, q⟩ := h
    have nd := sc_is_crowd.nd
    refine ⟨_, (pss_one (ps_ret (pe_and (pe_cmpR op_ge (pv 0) pe_int (nomark _)) (pe_one (pe_cmpR op_ge (pv 1) pe_int (nomark _)))))), ?_⟩
    refine ⟨.int c, rfl, _, _, rfl, rfl, _, rfl, ite2 (fun e => ?_) (fun e => ?_)⟩
    · have e := of_decide_eq_true e
      rw [decide_eq_true e, Bool.true_and] at q
      exact ⟨.int p, rfl, _, _, rfl, rfl, q⟩
    · rw [decide_eq_false (fun z => e (decide_eq_true z)), Bool.false_and] at q
      exact q
end
end El
namespace El
open PySem PySem.Spec PyProof.Rows L2
section
variable {P : Program} {w : World} {K : PySem.W.Frag} {mg : Str → Option Value} {base : Heap}
abbrev s_check_crowds : Stmt := topS 7
abbrev N_check_crowds : List Str := ["crowds", "number", "count", "patience"]
abbrev P_check_crowds : List Str := ["crowds"]
theorem sc_check_crowds : FnScope N_check_crowds P_check_crowds (defScope s_check_crowds) := ⟨rfl, rfl, rfl, by decide +kernel, rfl, by decide +kernel, by decide +kernel⟩
def sp_check_crowds : Sp := fun vs H Q _ => ∃ (B : Addr → Prop) (a : Addr) (ts : List Addr) (cs : List (Int × Int)), vs = [.ref a] ∧ GsAt H B a ts cs ∧ Crw cs ∧ ∀ H', Same H H' → Q .non H'
theorem ok_check_crowds (A : At K mg "check_crowds" P_check_crowds s_check_crowds) (B : Bi mg) (D_is_crowd : Df P w K mg base 1 "is_crowd" P_is_crowd s_is_crowd sp_is_crowd) : Df P w K mg base 2 "check_crowds" P_check_crowds s_check_crowds sp_check_crowds := by
  refine A.df fun f fd F => F.ok sc_check_crowds (fun vs H Q E h => ?_) (fun cdv AA outer s H vs Q E hr h => ?_)
  · obtain ⟨_, _, _, _, rfl, _⟩ := h
    rfl
  · obtain ⟨BB, a, ts, cs, rfl, hG, hC, q⟩ := h
    have nd := sc_check_crowds.nd
    refine ⟨_, (pss_one (ps_for PassesOwn.never rfl (pi_enum (by rfl) B.enumerate (pa_cons (pv 0) pa_nil)) (pg_tup (by rfl) (pgs_cons (pg_name (i := 1) nd rfl (.inl rfl)) (pgs_cons (pg_tup (by rfl) (pgs_cons (pg_name (i := 2) nd rfl (.inl rfl)) (pgs_cons (pg_name (i := 3) nd rfl (.inl rfl)) pgs_nil))) pgs_nil))) (pss_one (ps_if (pt_not (pt_val (pe_df D_is_crowd (hr.mono (by decide)) (by rfl) (pa_cons (pv 2) (pa_cons (pv 3) pa_nil))))) (pss_one ps_never) pss_nil)))), ?_⟩
    refine ⟨.ref a, rfl, a, ts.map V.ref, rfl, hG.seq, ?_⟩
    refine for_it (walk_enum (xs := ts.map V.ref)) (fun i σ H2 => ∃ y2 y3 y4, σ = [some (.ref a), y2, y3, y4] ∧ Same H H2) ⟨none, none, none, rfl, Same.refl _⟩ (fun i σ H2 _ hW => ?_) (fun i x σ H2 H3 hi hW hY => ?_) (fun σ H2 hW => ?_)
    · obtain ⟨_, _, _, _, sm⟩ := hW
      exact (hG.same sm).seq
    · obtain ⟨y2, y3, y4, rfl, sm⟩ := hW
      obtain ⟨T, x1, x2, rfl, nT, rfl, f1, f2⟩ := hY
      obtain rfl : V.int ↑i = x1 := Option.some.inj f1
      obtain ⟨t, g, rfl, eg, et⟩ := (hG.same sm).get f2
      have s3 : Same H2 (upd H2 T (.tup [.int i, .ref t])) := same_new nT
      refine ⟨T, [.int i, .ref t], rfl, SqT.of upd_same, rfl, .int i, [.ref t], rfl, .ref t, [], rfl, ?_⟩
      refine ⟨t, _, rfl, SqT.of (s3 _ _ et), rfl, .int g.1, [.int g.2], rfl, .int g.2, [], rfl, rfl, rfl, ?_⟩
      have hg := hC g (List.mem_of_getElem? eg)
      refine ⟨.int g.1, rfl, .int g.2, rfl, g.1, g.2, rfl, _, rfl, ?_⟩
      rw [decide_eq_true hg.1, decide_eq_true hg.2]
      refine iteF ?_
      exact ⟨_, _, _, rfl, sm.trans s3⟩
    · obtain ⟨y2, y3, y4, rfl, sm⟩ := hW
      exact q H2 sm
end
end El
namespace El
open PySem PySem.Spec PyProof.Rows L2
section
variable {P : Program} {w : World} {K : PySem.W.Frag} {mg : Str → Option Value} {base : Heap}
abbrev s_crowd_sizes : Stmt := topS 9
abbrev N_crowd_sizes : List Str := ["crowds", "filled", "count", "patience"]
abbrev P_crowd_sizes : List Str := ["crowds"]
theorem sc_crowd_sizes : FnScope N_crowd_sizes P_crowd_sizes (defScope s_crowd_sizes) := ⟨rfl, rfl, rfl, by decide +kernel, rfl, by decide +kernel, by decide +kernel⟩
/-- the sizes of the rooms when crowd after crowd has come -/
def seat (cs : List (Int × Int)) : List Int := cs.foldl (fun L c => sitN c.2 c.1.toNat L) []
theorem seat_snoc (cs : List (Int × Int)) (c : Int × Int) : seat (cs ++ [c]) = sitN c.2 c.1.toNat (seat cs) := by
  unfold seat
  rw [List.foldl_append]
  rfl
theorem sit_len (p : Int) : ∀ L : List Int, (sit p L).length ≤ L.length + 1
  | [] => Nat.le_refl _
  | s :: L => by
    unfold sit
    split
    · exact Nat.le_succ _
    · exact Nat.succ_le_succ (sit_len p L)
theorem sitN_len (p : Int) : ∀ (n : Nat) (L : List Int), (sitN p n L).length ≤ L.length + n
  | 0, _ => Nat.le_refl _
  | n + 1, L => by
    have h1 := sitN_len p n (sit p L)
    have h2 := sit_len p L
    show (sitN p n (sit p L)).length ≤ L.length + (n + 1)
    omega
theorem ex_len : ∀ {R : List (Int × Int)} {r : Int × Int}, r ∈ R → r.2.toNat ≤ (ex R).length
  | x :: R, r, m => by
    rw [ex_cons, List.length_append, List.length_replicate]
    rcases List.mem_cons.mp m with e | m
    · rw [e]
      exact Nat.le_add_right _ _
    · exact Nat.le_trans (ex_len m) (Nat.le_add_left _ _)
def sp_crowd_sizes : Sp := fun vs H Q _ => ∃ (B : Addr → Prop) (a : Addr) (ts : List Addr) (cs : List (Int × Int)), vs = [.ref a] ∧ GsAt H B a ts cs ∧ Crw cs ∧ (∀ c ∈ cs, c.1 < 2 ^ 150 ∧ c.2 < 2 ^ 150) ∧ cs.length ≤ 100 ∧
  ∀ (H' : Hp) (q : Addr) (us : List Addr) (R : List (Int × Int)), Same H H' → GsAt H' (fun b => H b = none) q us R → Rle R (seat cs) → R.length ≤ 3 * cs.length → Q (.ref q) H'
theorem ok_crowd_sizes (A : At K mg "crowd_sizes" P_crowd_sizes s_crowd_sizes) (B : Bi mg) (D_check_crowds : Df P w K mg base 2 "check_crowds" P_check_crowds s_check_crowds sp_check_crowds) (D_after_crowd : Df P w K mg base 3 "after_crowd" P_after_crowd s_after_crowd sp_after_crowd) : Df P w K mg base 4 "crowd_sizes" P_crowd_sizes s_crowd_sizes sp_crowd_sizes := by
  refine A.df fun f fd F => F.ok sc_crowd_sizes (fun vs H Q E h => ?_) (fun cdv AA outer s H vs Q E hr h => ?_)
  · obtain ⟨_, _, _, _, rfl, _⟩ := h
    rfl
  · obtain ⟨BB, a, ts, cs, rfl, hG, hC, hc, hl, q⟩ := h
    have nd := sc_crowd_sizes.nd
    refine ⟨_, (pss_cons (ps_expr (pe_df D_check_crowds (hr.mono (by decide)) (by rfl) (pa_cons (pv 0) pa_nil)))
    (pss_cons (ps_set (i := 1) nd rfl (.inl rfl) (pe_lst pa_nil))
    (pss_cons (ps_for PassesOwn.never rfl (pi_list (pv 0)) (pg_tup (by rfl) (pgs_cons (pg_name (i := 2) nd rfl (.inl rfl)) (pgs_cons (pg_name (i := 3) nd rfl (.inl rfl)) pgs_nil))) (pss_one (ps_set (i := 1) nd rfl (.inl rfl) (pe_df D_after_crowd (hr.mono (by decide)) (by rfl) (pa_cons (pv 1) (pa_cons (pv 2) (pa_cons (pv 3) pa_nil)))))))
    (pss_one (ps_ret (pv 1)))))), ?_⟩
    refine ⟨.ref a, rfl, BB, a, ts, cs, rfl, hG, hC, fun H1 s1 => ?_⟩
    -- filled = []
    refine ⟨Nat.zero_le _, fun o no => ?_⟩
    dsimp only [gName]
    have s2 := s1.trans (same_new (o := .lst []) no)
    refine seq_to (fun σ H2 => ∃ y2 y3 o us R, σ = [some (.ref a), some (.ref o), y2, y3] ∧ Same H H2 ∧ GsAt H2 (fun b => H b = none) o us R ∧ Rle R (seat cs) ∧ R.length ≤ 3 * cs.length) (fun X hX => ?_) (fun σ H2 hE => ?_)
    · refine ⟨.ref a, rfl, a, rfl, ⟨_, (hG.same s2).seq⟩, ?_⟩
      refine for_it (walk_list (xs := ts.map V.ref)) (fun i σ H2 => ∃ y2 y3 o us R, σ = [some (.ref a), some (.ref o), y2, y3] ∧ Same H H2 ∧ GsAt H2 (fun b => H b = none) o us R ∧ Rle R (seat (cs.take i)) ∧ R.length ≤ 3 * i ∧ (seat (cs.take i)).length ≤ i * 2 ^ 150)
        ⟨_, _, o, [], [], rfl, s2, ⟨upd_same, s1.free no, rfl, fun i t g e _ => by simp at e, fun t m => (List.not_mem_nil m).elim⟩, ⟨rfl, .nil, fun r m => (List.not_mem_nil m).elim⟩, Nat.zero_le _, Nat.zero_le _⟩ (fun i σ H2 _ hW => ?_) (fun i v σ H2 H3 hi hW hY => ?_) (fun σ H2 hW => ?_)
      · obtain ⟨_, _, _, _, _, _, s3, _⟩ := hW
        exact (hG.same s3).seq
      · obtain ⟨y2, y3, o, us, R, rfl, s3, Go, Ro, lR, lL⟩ := hW
        obtain ⟨rfl, hx⟩ := hY
        obtain ⟨t, c, rfl, eg, et⟩ := (hG.same s3).get hx
        have hi' := at_lt eg
        have mc := List.mem_of_getElem? eg
        have c0 := hC c mc
        have c1 := hc c mc
        refine ⟨t, _, rfl, SqT.of et, rfl, .int c.1, _, rfl, .int c.2, _, rfl, rfl, ?_⟩
        have h1 : i * 2 ^ 150 ≤ 100 * 2 ^ 150 := Nat.mul_le_mul_right _ (by omega)
        refine ⟨.ref o, rfl, .int c.1, rfl, .int c.2, rfl, _, o, us, R, seat (cs.take i), c.1, c.2, rfl, Go, Ro, by omega, by omega, by omega, by omega, fun r m => ?_, by omega, fun H4 q4 us4 R4 s4 G4 Rl4 l4 => ?_⟩
        · have := ex_len m
          rw [← Ro.e] at this
          omega
        dsimp only [gName]
        refine ⟨_, _, q4, us4, R4, rfl, s3.trans s4, G4.weaken fun b e => s3.free e, ?_, by omega, ?_⟩
        · rw [take_snoc eg, seat_snoc]
          exact Rl4
        · rw [take_snoc eg, seat_snoc]
          have := sitN_len c.2 c.1.toNat (seat (cs.take i))
          have h2 : (i + 1) * 2 ^ 150 = i * 2 ^ 150 + 2 ^ 150 := by rw [Nat.add_mul, Nat.one_mul]
          omega
      · obtain ⟨y2, y3, o, us, R, rfl, s3, Go, Ro, lR, lL⟩ := hW
        rw [List.length_map, hG.len, List.take_length] at Ro
        rw [List.length_map, hG.len] at lR
        exact hX _ _ ⟨_, _, o, us, R, rfl, s3, Go, Ro, lR⟩
    · obtain ⟨y2, y3, o, us, R, rfl, s3, Go, Ro, lR⟩ := hE
      exact ⟨_, rfl, q H2 o us R s3 Go Ro lR⟩
end
end El
namespace El
open PySem PySem.Spec PyProof.Rows L2
section
variable {P : Program} {w : World} {K : PySem.W.Frag} {mg : Str → Option Value} {base : Heap}
abbrev s_crowd_in_first : Stmt := topS 10
abbrev N_crowd_in_first : List Str := ["crowds", "j", "filled", "told", "left", "size", "many", "counted"]
abbrev P_crowd_in_first : List Str := ["crowds", "j"]
theorem sc_crowd_in_first : FnScope N_crowd_in_first P_crowd_in_first (defScope s_crowd_in_first) := ⟨rfl, rfl, rfl, by decide +kernel, rfl, by decide +kernel, by decide +kernel⟩
/-- how many live in the first so many rooms -/
def inF (L : List Int) (j : Int) : Int := (L.take j.toNat).sum
theorem sum_rep (z : Int) : ∀ n : Nat, (List.replicate n z).sum = n * z
  | 0 => by simp
  | n + 1 => by
    rw [List.replicate_succ, List.sum_cons, sum_rep z n]
    rw [show ((n + 1 : Nat) : Int) = (n : Int) + 1 from rfl, Int.add_mul, Int.one_mul, Int.add_comm]
/-- run by run -/
theorem inF_run (z : Int) (c : Int) (X : List Int) (j : Int) (hc : 0 ≤ c) (hj : 0 ≤ j) : inF (List.replicate c.toNat z ++ X) j = min c j * z + inF X (j - min c j) := by
  unfold inF
  rw [List.take_append, List.sum_append, List.take_replicate, sum_rep, List.length_replicate]
  rw [show (min j.toNat c.toNat : Nat) = (min c j).toNat by omega, show (((min c j).toNat : Nat) : Int) = min c j by omega, show j.toNat - c.toNat = (j - min c j).toNat by omega]
theorem inF_nil (j : Int) : inF [] j = 0 := by
  unfold inF
  rw [List.take_nil]
  rfl
theorem sit_le {p M : Int} {L : List Int} (h : ∀ y ∈ L, y ≤ M) (hp : p + 1 ≤ M) (h1 : 1 ≤ M) : ∀ y ∈ sit p L, y ≤ M := fun y m => by
  rcases sit_mem m with z | z | z
  · exact h y z
  · omega
  · omega
theorem sitN_le {p M : Int} (hp : p + 1 ≤ M) (h1 : 1 ≤ M) : ∀ {n : Nat} {L : List Int}, (∀ y ∈ L, y ≤ M) → ∀ y ∈ sitN p n L, y ≤ M
  | 0, _, h => h
  | n + 1, L, h => sitN_le hp h1 (n := n) (L := sit p L) (sit_le h hp h1)
theorem lot_le {M : Int} (h1 : 1 ≤ M) : ∀ {cs : List (Int × Int)} {L : List Int}, (∀ c ∈ cs, c.2 + 1 ≤ M) → (∀ y ∈ L, y ≤ M) → ∀ y ∈ cs.foldl (fun L c => sitN c.2 c.1.toNat L) L, y ≤ M
  | [], _, _, h => h
  | c :: cs, L, hc, h => lot_le h1 (cs := cs) (L := sitN c.2 c.1.toNat L) (fun x m => hc x (List.mem_cons_of_mem _ m)) (sitN_le (hc c List.mem_cons_self) h1 h)
def sp_crowd_in_first : Sp := fun vs H Q _ => ∃ (B : Addr → Prop) (a : Addr) (ts : List Addr) (cs : List (Int × Int)) (j : Int), vs = [.ref a, .int j] ∧ GsAt H B a ts cs ∧ Crw cs ∧ (∀ c ∈ cs, c.1 < 2 ^ 150 ∧ c.2 < 2 ^ 150) ∧ cs.length ≤ 100 ∧ 0 ≤ j ∧ j < 2 ^ 190 ∧
  ∀ H', Same H H' → Q (.int (inF (seat cs) j)) H'
theorem ok_crowd_in_first (A : At K mg "crowd_in_first" P_crowd_in_first s_crowd_in_first) (B : Bi mg) (D_crowd_sizes : Df P w K mg base 4 "crowd_sizes" P_crowd_sizes s_crowd_sizes sp_crowd_sizes) (D_check_first : Df P w K mg base 1 "check_first" P_check_first s_check_first sp_check_first) : Df P w K mg base 5 "crowd_in_first" P_crowd_in_first s_crowd_in_first sp_crowd_in_first := by
  refine A.df fun f fd F => F.ok sc_crowd_in_first (fun vs H Q E h => ?_) (fun cdv AA outer s H vs Q E hr h => ?_)
  · obtain ⟨_, _, _, _, _, rfl, _⟩ := h
    rfl
  · obtain ⟨BB, a, ts, cs, j, rfl, hG, hC, hc, hl, hj, hj2, q⟩ := h
    obtain ⟨j, rfl⟩ : ∃ n : Nat, j = n := ⟨j.toNat, by omega⟩
    have nd := sc_crowd_in_first.nd
    refine ⟨_, (pss_cons (ps_set (i := 2) nd rfl (.inl rfl) (pe_df D_crowd_sizes (hr.mono (by decide)) (by rfl) (pa_cons (pv 0) pa_nil)))
    (pss_cons (ps_expr (pe_df D_check_first (hr.mono (by decide)) (by rfl) (pa_cons (pv 1) pa_nil)))
    (pss_cons (ps_set (i := 3) nd rfl (.inl rfl) pe_int)
    (pss_cons (ps_set (i := 4) nd rfl (.inl rfl) (pv 1))
    (pss_cons (ps_for PassesOwn.never rfl (pi_list (pv 2)) (pg_tup (by rfl) (pgs_cons (pg_name (i := 5) nd rfl (.inl rfl)) (pgs_cons (pg_name (i := 6) nd rfl (.inl rfl)) pgs_nil))) (pss_cons (ps_set (i := 7) nd rfl (.inl rfl) (pe_callB (call_min2 rfl) (by rfl) B.min (by decide +kernel) (pa_cons (pv 6) (pa_cons (pv 4) pa_nil)))) (pss_cons (ps_aug (i := 3) nd rfl (.inl rfl) (pe_op op_mulW (pv 7) (pv 5)) ip_add) (pss_one (ps_aug (i := 4) nd rfl (.inl rfl) (pv 7) ip_sub)))))
    (pss_one (ps_ret (pv 3)))))))), ?_⟩
    refine ⟨.ref a, rfl, BB, a, ts, cs, rfl, hG, hC, hc, hl, fun H1 o us R s1 G1 R1 lR => ?_⟩
    dsimp only [gName]
    refine ⟨.int j, rfl, j, rfl, .int j, rfl, ?_⟩
    dsimp only [gName]
    refine seq_to (fun σ H2 => ∃ y4 y5 y6 y7, σ = [some (.ref a), some (.int j), some (.ref o), some (.int (inF (seat cs) j)), y4, y5, y6, y7] ∧ Same H H2) (fun X hX => ?_) (fun σ H2 hE => ?_)
    · refine ⟨.ref o, rfl, o, rfl, ⟨_, G1.seq⟩, ?_⟩
      refine for_it (walk_list (xs := us.map V.ref)) (fun i σ H2 => ∃ told left y5 y6 y7, σ = [some (.ref a), some (.int j), some (.ref o), some (.int told), some (.int left), y5, y6, y7] ∧ Same H1 H2 ∧ 0 ≤ left ∧ left ≤ j ∧ inF (ex R) j = told + inF (ex (R.drop i)) left)
        ⟨0, j, _, _, _, rfl, fun _ _ e => e, by omega, Int.le_refl _, by rw [Int.zero_add]; rfl⟩ (fun i σ H2 _ hW => ?_) (fun i v σ H2 H3 hi hW hY => ?_) (fun σ H2 hW => ?_)
      · obtain ⟨_, _, _, _, _, _, s2, _⟩ := hW
        exact (G1.same s2).seq
      · obtain ⟨told, left, y5, y6, y7, rfl, s2, h0, h1, hP⟩ := hW
        obtain ⟨rfl, hx⟩ := hY
        obtain ⟨t, ⟨z, c⟩, rfl, eg, et⟩ := (G1.same s2).get hx
        have mR := List.mem_of_getElem? eg
        have hzc : 0 < z ∧ 0 < c := R1.p _ mR
        have zl : z ≤ 2 ^ 150 + 1 := by
          refine lot_le (M := 2 ^ 150 + 1) (by decide) (cs := cs) (L := []) (fun x m => by have := (hc x m).2; omega) (fun y m => (List.not_mem_nil m).elim) z ?_
          show z ∈ seat cs
          rw [R1.e]
          exact List.mem_flatMap.mpr ⟨_, mR, List.mem_replicate.mpr ⟨by show c.toNat ≠ 0; omega, rfl⟩⟩
        refine ⟨t, _, rfl, SqT.of et, rfl, .int z, _, rfl, .int c, _, rfl, rfl, ?_⟩
        refine ⟨.int c, rfl, .int left, rfl, _, _, rfl, ?_⟩
        have hk : (if left < c then left else c) = min c left := by split <;> omega
        rw [hk]
        dsimp only [gName]
        have hk0 : 0 ≤ min c left ∧ min c left ≤ left := by omega
        have hrun : inF (ex (R.drop i)) left = min c left * z + inF (ex (R.drop (i + 1))) (left - min c left) := by
          obtain ⟨hi', ei'⟩ := List.getElem?_eq_some_iff.mp eg
          rw [List.drop_eq_getElem_cons hi', ei', ex_cons]
          exact inF_run z c (ex (R.drop (i + 1))) left (by omega) h0
        generalize min c left = k at hk0 hrun ⊢
        have a1 : k.natAbs.log2 ≤ 200 := by
          by_cases hk : k = 0
          · rw [hk]
            decide
          · exact Nat.le_of_lt ((Nat.log2_lt (by omega)).mpr (by omega))
        have a2 : z.natAbs.log2 ≤ 200 := Nat.le_of_lt ((Nat.log2_lt (by omega)).mpr (by omega))
        refine ⟨.int told, rfl, .int k, rfl, .int z, rfl, k, z, rfl, rfl, (by show k.natAbs.log2 + z.natAbs.log2 < 1000000; omega), told, k * z, rfl, rfl, ?_⟩
        refine ⟨.int left, rfl, .int k, rfl, left, k, rfl, rfl, ?_⟩
        exact ⟨told + k * z, left - k, _, _, _, rfl, s2, by omega, by omega, by rw [hP, hrun, Int.add_assoc]⟩
      · obtain ⟨told, left, y5, y6, y7, rfl, s2, h0, h1, hP⟩ := hW
        have lu : (us.map V.ref).length = R.length := by rw [List.length_map, G1.len]
        rw [lu, List.drop_length, ex_nil, inF_nil, Int.add_zero, ← R1.e] at hP
        exact hX _ _ ⟨_, _, _, _, by rw [hP], s1.trans s2⟩
    · obtain ⟨y4, y5, y6, y7, rfl, s2⟩ := hE
      exact ⟨_, rfl, q H2 s2⟩
end
end El
namespace El
open PySem PySem.Spec PyProof.Rows L2
/-! ### guests written out crowd by crowd -/
theorem lens_place (a p : Int) : ∀ rs : List (List Int), lens (place rs a p) = sit p (lens rs)
  | [] => rfl
  | r :: rs => by
    unfold place
    show _ = sit p ((r.length : Int) :: lens rs)
    unfold sit
    by_cases h : (r.length : Int) ≤ p
    · rw [if_pos h, if_pos h]
      show ((r ++ [a]).length : Int) :: lens rs = _
      rw [List.length_append]
      rfl
    · rw [if_neg h, if_neg h]
      show (r.length : Int) :: lens (place rs a p) = _
      rw [lens_place a p rs]
theorem lens_fold : ∀ (L : List (Int × Int)) (rs : List (List Int)), lens (L.foldl (fun rs g => place rs g.1 g.2) rs) = (L.map (·.2)).foldl (fun M p => sit p M) (lens rs)
  | [], _ => rfl
  | g :: L, rs => by
    show lens (L.foldl _ (place rs g.1 g.2)) = (L.map (·.2)).foldl _ (sit g.2 (lens rs))
    rw [lens_fold L, lens_place]
/-- the eldest with the greatest years -/
def wrG : List Int → List (Int × Int)
  | [] => []
  | p :: ps => ((ps.length : Int) + 1, p) :: wrG ps
theorem wrG_snd : ∀ ps : List Int, (wrG ps).map (·.2) = ps
  | [] => rfl
  | p :: ps => congrArg (p :: ·) (wrG_snd ps)
theorem wrG_len (ps : List Int) : (wrG ps).length = ps.length := by rw [← List.length_map (f := fun g : Int × Int => g.2), wrG_snd]
theorem wrG_le : ∀ {ps : List Int} {g : Int × Int}, g ∈ wrG ps → g.1 ≤ ps.length
  | p :: ps, g, m => by
    rcases List.mem_cons.mp m with e | m
    · rw [e]
      exact Int.le_refl _
    · have := wrG_le m
      show g.1 ≤ ((ps.length + 1 : Nat) : Int)
      omega
theorem wrG_falls : ∀ ps : List Int, (wrG ps).Pairwise fun g h => h.1 < g.1
  | [] => .nil
  | p :: ps => List.pairwise_cons.mpr ⟨fun g m => by
    have := wrG_le m
    show g.1 < (ps.length : Int) + 1
    omega, wrG_falls ps⟩
theorem wrG_at : ∀ {ps : List Int} {k : Nat} {p : Int}, ps[k]? = some p → (wrG ps)[k]? = some ((ps.length : Int) - k, p)
  | x :: ps, 0, p, h => by
    obtain rfl := Option.some.inj h
    show some ((ps.length : Int) + 1, x) = some (((ps.length + 1 : Nat) : Int) - ((0 : Nat) : Int), x)
    congr 2
  | x :: ps, k + 1, p, h => by
    have := wrG_at (ps := ps) (k := k) h
    show (wrG ps)[k]? = some (((ps.length + 1 : Nat) : Int) - ((k + 1 : Nat) : Int), p)
    rw [this]
    congr 2
    omega
theorem wrG_fit {ps : List Int} (h : ∀ p ∈ ps, 0 ≤ p) : Fit (wrG ps) := by
  refine ⟨?_, fun g m => h _ ?_⟩
  · rw [List.Nodup, List.pairwise_map]
    exact (wrG_falls ps).imp fun h => by omega
  · have := List.mem_map_of_mem (f := fun g : Int × Int => g.2) m
    rw [wrG_snd] at this
    exact this
theorem wrG_lens {ps : List Int} (h : ∀ p ∈ ps, 0 ≤ p) : lens (settle (wrG ps)) = ps.foldl (fun M p => sit p M) [] := by
  have e : wrG ps = byAge (wrG ps) := byAge_of (wrG_fit h) (.refl _) ((wrG_falls ps).imp fun h => by omega)
  show lens (settleL (byAge (wrG ps))) = _
  rw [← e]
  have := lens_fold (wrG ps) []
  rw [wrG_snd] at this
  exact this
theorem fold_rep (p : Int) : ∀ (n : Nat) (L : List Int), (List.replicate n p).foldl (fun M p => sit p M) L = sitN p n L
  | 0, _ => rfl
  | n + 1, L => by
    rw [List.replicate_succ]
    exact fold_rep p n (sit p L)
def lotP (cs : List (Int × Int)) : List Int := cs.flatMap fun c => List.replicate c.1.toNat c.2
theorem fold_lot : ∀ (cs : List (Int × Int)) (L : List Int), (lotP cs).foldl (fun M p => sit p M) L = cs.foldl (fun L c => sitN c.2 c.1.toNat L) L
  | [], _ => rfl
  | c :: cs, L => by
    show ((List.replicate c.1.toNat c.2 ++ lotP cs)).foldl _ L = cs.foldl _ (sitN c.2 c.1.toNat L)
    rw [List.foldl_append, fold_rep, fold_lot cs]
/-- how many live in the first room -/
def hd (L : List Int) : Int := (L ++ [0]).headD 0
theorem hd_sit {p : Int} (hp : 0 ≤ p) : ∀ L : List Int, hd (sit p L) = if hd L ≤ p then hd L + 1 else hd L
  | [] => by
    show (1 : Int) = if (0 : Int) ≤ p then 0 + 1 else 0
    rw [if_pos hp]
    rfl
  | s :: L => by
    unfold sit
    show _ = if s ≤ p then s + 1 else s
    by_cases h : s ≤ p
    · rw [if_pos h, if_pos h]
      rfl
    · rw [if_neg h, if_neg h]
      rfl
theorem hd_sitN {p : Int} (hp : 0 ≤ p) : ∀ (n : Nat) (L : List Int), hd (sitN p n L) = kst (hd L) (n, p)
  | 0, L => by
    show hd L = kst (hd L) (0, p)
    unfold kst
    show hd L = if p + 1 ≤ hd L then hd L else if hd L + 0 ≤ p + 1 then hd L + 0 else p + 1
    split
    · rfl
    · rw [if_pos (by omega), Int.add_zero]
  | n + 1, L => by
    show hd (sitN p n (sit p L)) = _
    rw [hd_sitN hp n, hd_sit hp]
    unfold kst
    show (if p + 1 ≤ (if hd L ≤ p then hd L + 1 else hd L) then (if hd L ≤ p then hd L + 1 else hd L) else if (if hd L ≤ p then hd L + 1 else hd L) + (n : Int) ≤ p + 1 then (if hd L ≤ p then hd L + 1 else hd L) + (n : Int) else p + 1) = if p + 1 ≤ hd L then hd L else if hd L + ((n + 1 : Nat) : Int) ≤ p + 1 then hd L + ((n + 1 : Nat) : Int) else p + 1
    repeat' split
    all_goals omega
theorem hd_lot : ∀ {cs : List (Int × Int)}, Crw cs → ∀ L : List Int, hd (cs.foldl (fun L c => sitN c.2 c.1.toNat L) L) = stay cs (hd L)
  | [], _, _ => rfl
  | c :: cs, h, L => by
    have hc := h c List.mem_cons_self
    show hd (cs.foldl _ (sitN c.2 c.1.toNat L)) = stay cs (kst (hd L) c)
    rw [hd_lot (fun x m => h x (List.mem_cons_of_mem _ m)), hd_sitN hc.2, show ((c.1.toNat : Nat) : Int) = c.1 by omega]
/-- a list of sizes is told in one way -/
theorem Rle.one {R S : List (Int × Int)} {L : List Int} (h : Rle R L) (k : Rle S L) : R = S := by
  have fit : ∀ {R : List (Int × Int)}, Rle R L → Fit R := fun h => ⟨by
    rw [List.Nodup, List.pairwise_map]
    exact h.d.imp fun h => by omega, fun r m => Int.le_of_lt (h.p r m).2⟩
  have val : ∀ {R : List (Int × Int)}, Rle R L → ∀ r ∈ R, r.2 = ((L.count r.1 : Nat) : Int) := fun {R} h r m => by
    have := cnt_pof (fit h).nd (fit h).pos r.1
    rw [pof_is (fit h).nd m] at this
    rw [h.e]
    exact this.symm
  have sub : ∀ {R S : List (Int × Int)}, Rle R L → Rle S L → ∀ r ∈ R, r ∈ S := fun {R S} h k r m => by
    have v := val h r m
    have p := (h.p r m).2
    have : r.1 ∈ L := List.count_pos_iff.mp (by omega)
    rw [k.e] at this
    obtain ⟨s, ms, es⟩ := ex_mem this
    have w := val k s ms
    have : s = r := Prod.ext es (by rw [w, v, es])
    exact this ▸ ms
  have nd : ∀ {R : List (Int × Int)}, Rle R L → R.Nodup := fun h => (h.d.imp fun {a b} h e => by rw [e] at h; omega)
  have pm : R.Perm S := (List.perm_ext_iff_of_nodup (nd h) (nd k)).mpr fun r => ⟨sub h k r, sub k h r⟩
  have e1 : R = byAge S := byAge_of (fit k) pm (h.d.imp fun h => by omega)
  have e2 : S = byAge S := byAge_of (fit k) (.refl _) (k.d.imp fun h => by omega)
  rw [e1, ← e2]
end El
namespace El
open PySem PySem.Spec PyProof.Rows L2
/-- the pot: what a great cell has more, a number to be mixed, how many were mixed -/
structure Pot (H : Hp) (b : Addr) (n : Nat) : Prop where
  ex : ∃ x y t : Int, H b = some (.lst [.int x, .int y, .int t]) ∧ 0 ≤ x ∧ 0 ≤ y ∧ y < 2 ^ 63 ∧ 0 ≤ t ∧ t ≤ n
theorem Pot.same {H H' : Hp} {b : Addr} {n : Nat} (h : Pot H b n) (k : Same H H') : Pot H' b n :=
  let ⟨x, y, t, e, r⟩ := h.ex
  ⟨x, y, t, k _ _ e, r⟩
theorem Pot.kept {H H' : Hp} {b : Addr} {n : Nat} {B : Addr → Prop} (h : Pot H b n) (k : Kp B H H') (hb : B b) : Pot H' b n :=
  let ⟨x, y, t, e, r⟩ := h.ex
  ⟨x, y, t, k _ _ hb e, r⟩
theorem Pot.more {H : Hp} {b : Addr} {n m : Nat} (h : Pot H b n) (k : n ≤ m) : Pot H b m :=
  let ⟨x, y, t, e, r1, r2, r3, r4, r5⟩ := h.ex
  ⟨x, y, t, e, r1, r2, r3, r4, by omega⟩
/-- ** of a greater base -/
def CPowB (i j : Int) : Prop := 0 ≤ j ∧ (Builtin.Int.intBits i : Int) * j ≤ 2 ^ 27
theorem op_powB {X : Cx} : OpR X (binaryOp .Pow) (rI CPowB fun i j => .int (i ^ j.toNat)) := opI fun _ _ _ _ _ _ _ hc q => pow_int hc.1 hc.2 q
theorem few_bits {a : Int} (h : a.natAbs < 2 ^ 200) : Builtin.Int.intBits a ≤ 201 := by
  unfold Builtin.Int.intBits
  split
  · omega
  · rename_i h0
    have := (Nat.log2_lt (show a.natAbs ≠ 0 from fun e => h0 (by simpa using e))).mpr h
    omega
section
variable {P : Program} {w : World} {K : PySem.W.Frag} {mg : Str → Option Value} {base : Heap}
abbrev s__law_draw : Stmt := topS 16
abbrev N__law_draw : List Str := ["pot", "many", "drawn", "mixed"]
abbrev P__law_draw : List Str := ["pot", "many"]
theorem sc__law_draw : FnScope N__law_draw P__law_draw (defScope s__law_draw) := ⟨rfl, rfl, rfl, by decide +kernel, rfl, by decide +kernel, by decide +kernel⟩
def sp__law_draw : Sp := fun vs H Q _ => ∃ (b : Addr) (n : Nat) (m : Int), vs = [.ref b, .int m] ∧ Pot H b n ∧ n ≤ 1000000000 ∧ 0 < m ∧ m < 2 ^ 200 ∧
  ∀ H' r, Kp (fun z => z ≠ b) H H' → Pot H' b (n + 1) → 0 ≤ r → r < m → Q (.int r) H'
theorem ok__law_draw (A : At K mg "_law_draw" P__law_draw s__law_draw) (B : Bi mg) : Df P w K mg base 1 "_law_draw" P__law_draw s__law_draw sp__law_draw := by
  refine A.df fun f fd F => F.ok sc__law_draw (fun vs H Q E h => ?_) (fun cdv AA outer s H vs Q E hr h => ?_)
  · obtain ⟨_, _, _, rfl, _⟩ := h
    rfl
  · obtain ⟨b, n, m, rfl, hT, hn, m0, m1, q⟩ := h
    have nd := sc__law_draw.nd
    refine ⟨_, (pss_cons (ps_if (pt_cmpR op_gt (pe_ix ix_list (pv 0) pe_int (fun _ _ => rfl)) pe_int (nomark _)) (pss_cons (ps_set (i := 2) nd rfl (.inl rfl) (pe_op op_mod (pe_ix ix_list (pv 0) pe_int (fun _ _ => rfl)) (pv 1))) (pss_cons (ps_asg (pe_op op_fdivW (pe_ix ix_list (pv 0) pe_int (fun _ _ => rfl)) (pv 1)) (pg_sub (pv 0) pe_int set_list)) (pss_one (ps_ret (pv 2))))) pss_nil)
    (pss_cons (ps_asg (pe_op op_add (pe_ix ix_list (pv 0) pe_int (fun _ _ => rfl)) pe_int) (pg_sub (pv 0) pe_int set_list))
    (pss_cons (ps_set (i := 3) nd rfl (.inl rfl) (pe_op op_mod (pe_op op_powB (pe_op op_add (pe_ix ix_list (pv 0) pe_int (fun _ _ => rfl)) (pe_op op_mul pe_int (pe_ix ix_list (pv 0) pe_int (fun _ _ => rfl)))) pe_int) pe_int))
    (pss_cons (ps_set (i := 3) nd rfl (.inl rfl) (pe_op op_mod (pe_op op_powB (pe_op op_add (pv 3) (pe_op op_mul pe_int (pe_ix ix_list (pv 0) pe_int (fun _ _ => rfl)))) pe_int) pe_int))
    (pss_one (ps_ret (pe_op op_mod (pe_op op_fdivW (pv 3) pe_int) (pv 1)))))))), ?_⟩
    obtain ⟨x, y, t, j1, x0, y0, y1, t0, t1⟩ := hT.ex
    refine ⟨.ref b, rfl, b, _, 0, .int x, rfl, rfl, SqL.of j1, atI_nat (j := 0) rfl, _, _, rfl, rfl, _, rfl, ite2 (fun ea => ?_) (fun ea => ?_)⟩
    · have g1 : CDivW x m := ⟨m0, Nat.lt_trans (log_lt m0 m1) (by decide)⟩
      refine ⟨.ref b, rfl, b, _, 0, .int x, rfl, rfl, SqL.of j1, atI_nat (j := 0) rfl, .int m, rfl, _, _, rfl, rfl, m0, ?_⟩
      refine ⟨.ref b, rfl, b, _, 0, .int x, rfl, rfl, SqL.of j1, atI_nat (j := 0) rfl, .int m, rfl, _, _, rfl, rfl, g1, .ref b, rfl, b, _, 0, 0, rfl, rfl, j1, rfl, _, rfl, ?_⟩
      exact q _ _ (Kp.mut Kp.refl fun z => z rfl) ⟨x / m, y, t, upd_same, Int.ediv_nonneg x0 (by omega), y0, y1, t0, by omega⟩ (Int.emod_nonneg _ (by omega)) (Int.emod_lt_of_pos _ m0)
    · refine ⟨.ref b, rfl, b, _, 2, .int t, rfl, rfl, SqL.of j1, atI_nat (j := 2) rfl, _, _, rfl, rfl, .ref b, rfl, b, _, 2, 2, rfl, rfl, j1, rfl, ?_⟩
      have e1 : upd H b (.lst [.int x, .int y, .int (t + 1)]) b = some (.lst [.int x, .int y, .int (t + 1)]) := upd_same
      have k1 : Kp (fun z => z ≠ b) H (upd H b (.lst [.int x, .int y, .int (t + 1)])) := Kp.mut Kp.refl fun z => z rfl
      have T1 : Pot (upd H b (.lst [.int x, .int y, .int (t + 1)])) b (n + 1) := ⟨x, y, t + 1, e1, x0, y0, y1, by omega, by omega⟩
      show tSeq _ _ _ _ (upd H b (.lst [.int x, .int y, .int (t + 1)]))
      revert e1 k1 T1
      generalize upd H b (.lst [.int x, .int y, .int (t + 1)]) = H1
      intro e1 k1 T1
      refine ⟨.ref b, rfl, b, _, 1, .int y, rfl, rfl, SqL.of e1, atI_nat (j := 1) rfl, .ref b, rfl, b, _, 2, .int (t + 1), rfl, rfl, SqL.of e1, atI_nat (j := 2) rfl, _, _, rfl, rfl, .inl (by decide), _, _, rfl, rfl, ?_⟩
      refine ⟨_, _, rfl, rfl, ⟨by decide, ?_⟩, _, _, rfl, rfl, (by show (0 : Int) < 162259276829213363391578010288127; decide), ?_⟩
      · have hb : (y + 15485863 * (t + 1)).natAbs < 2 ^ 200 := by omega
        have := few_bits hb
        show (Builtin.Int.intBits (y + 15485863 * (t + 1)) : Int) * 3 ≤ 2 ^ 27
        omega
      have hx : 0 ≤ (y + 15485863 * (t + 1)) ^ (3 : Int).toNat % 162259276829213363391578010288127 ∧ (y + 15485863 * (t + 1)) ^ (3 : Int).toNat % 162259276829213363391578010288127 < 162259276829213363391578010288127 := ⟨Int.emod_nonneg _ (by decide), Int.emod_lt_of_pos _ (by decide)⟩
      dsimp only [gName]
      revert hx
      generalize (y + 15485863 * (t + 1)) ^ (3 : Int).toNat % 162259276829213363391578010288127 = X
      intro hx
      refine ⟨.int X, rfl, .ref b, rfl, b, _, 2, .int (t + 1), rfl, rfl, SqL.of e1, atI_nat (j := 2) rfl, _, _, rfl, rfl, .inl (by decide), _, _, rfl, rfl, _, _, rfl, rfl, ⟨by decide, ?_⟩, _, _, rfl, rfl, (by show (0 : Int) < 170141183460469231731687303715884105727; decide), ?_⟩
      · have hb : (X + 32452843 * (t + 1)).natAbs < 2 ^ 200 := by omega
        have := few_bits hb
        show (Builtin.Int.intBits (X + 32452843 * (t + 1)) : Int) * 5 ≤ 2 ^ 27
        omega
      dsimp only [gName]
      generalize (X + 32452843 * (t + 1)) ^ (5 : Int).toNat % 170141183460469231731687303715884105727 = Y
      refine ⟨.int Y, rfl, _, _, rfl, rfl, ⟨by decide, by decide⟩, .int m, rfl, _, _, rfl, rfl, m0, ?_⟩
      exact q _ _ k1 T1 (Int.emod_nonneg _ (by omega)) (Int.emod_lt_of_pos _ m0)
end
end El
namespace El
open PySem PySem.Spec PyProof.Rows L2
section
variable {P : Program} {w : World} {K : PySem.W.Frag} {mg : Str → Option Value} {base : Heap}
abbrev s__law_pot : Stmt := topS 15
abbrev N__law_pot : List Str := ["script", "at", "cell"]
abbrev P__law_pot : List Str := ["script", "at"]
theorem sc__law_pot : FnScope N__law_pot P__law_pot (defScope s__law_pot) := ⟨rfl, rfl, rfl, by decide +kernel, rfl, by decide +kernel, by decide +kernel⟩
def sp__law_pot (K : PySem.W.Frag) : Sp := fun vs H Q _ => ∃ (a : Addr) (ns : List Int) (i : Nat), vs = [.ref a, .int i] ∧ SqL K H a (ns.map V.int) ∧ i ≤ 1000 ∧
  ∀ H' b, Same H H' → H b = none → Pot H' b 0 → Q (.ref b) H'
theorem ok__law_pot (A : At K mg "_law_pot" P__law_pot s__law_pot) (B : Bi mg) : Df P w K mg base 1 "_law_pot" P__law_pot s__law_pot (sp__law_pot K) := by
  refine A.df fun f fd F => F.ok sc__law_pot (fun vs H Q E h => ?_) (fun cdv AA outer s H vs Q E hr h => ?_)
  · obtain ⟨_, _, _, rfl, _⟩ := h
    rfl
  · obtain ⟨a, ns, i, rfl, hS, hi, q⟩ := h
    have nd := sc__law_pot.nd
    refine ⟨_, (pss_cons (ps_set (i := 2) nd rfl (.inl rfl) pe_int)
    (pss_cons (ps_if (pt_cmpR op_lt (pv 1) (pe_callB call_len_seq (by rfl) B.len PySem.boot_len (pa_cons (pv 0) pa_nil)) (nomark _)) (pss_one (ps_set (i := 2) nd rfl (.inl rfl) (pe_ix ix_list (pv 0) (pv 1) (fun _ _ => rfl)))) pss_nil)
    (pss_one (ps_ret (pe_lst (pa_cons (pe_callB (call_max2 rfl) (by rfl) B.max (by decide +kernel) (pa_cons pe_int (pa_cons (pe_op op_sub (pe_callB call_abs (by rfl) B.abs (by decide +kernel) (pa_cons (pv 2) pa_nil)) (pe_op op_pow pe_int pe_int)) pa_nil))) (pa_cons (pe_op op_add (pe_op op_mod (pv 2) pe_int) (pe_op op_mul pe_int (pe_op op_add (pv 1) pe_int))) (pa_cons pe_int pa_nil)))))))), ?_⟩
    refine seq_set ?_
    refine seq_to (fun σ H2 => ∃ c : Int, σ = [some (.ref a), some (.int i), some (.int c)] ∧ H2 = H) (fun X hX => ?_) (fun σ H2 hE => ?_)
    · refine ⟨.int i, rfl, .ref a, rfl, a, _, rfl, .inl hS, _, _, rfl, rfl, _, rfl, ite2 (fun e => ?_) (fun _ => ?_)⟩
      · have e : (i : Int) < ((ns.map V.int).length : Nat) := of_decide_eq_true e
        rw [List.length_map] at e
        obtain ⟨c, ec⟩ := at_some (show i < ns.length by omega)
        exact ⟨.ref a, rfl, .int i, rfl, a, _, i, .int c, rfl, rfl, hS, atI_nat (by rw [List.getElem?_map, ec]; rfl), hX _ _ ⟨c, rfl, rfl⟩⟩
      · exact hX _ _ ⟨0, rfl, rfl⟩
    · obtain ⟨c, rfl, rfl⟩ := hE
      refine ⟨.int c, rfl, c, rfl, _, _, rfl, rfl, ⟨by decide, by decide, by decide⟩, _, _, rfl, rfl, _, _, rfl, ?_⟩
      refine ⟨.int c, rfl, _, _, rfl, rfl, (by show (0 : Int) < 2305843009213693951; decide), .int i, rfl, _, _, rfl, rfl, _, _, rfl, rfl, .inl (by decide), _, _, rfl, rfl, (by show 3 ≤ sizeLine; decide), fun p np => ?_⟩
      have h0 := Int.emod_nonneg c (show (2305843009213693951 : Int) ≠ 0 by decide)
      have h1 := Int.emod_lt_of_pos c (show (0 : Int) < 2305843009213693951 by decide)
      refine q _ p (same_new np) np ⟨_, _, 0, upd_same, ?_, by omega, by omega, Int.le_refl _, Int.le_refl _⟩
      split <;> omega
end
end El
namespace El
open PySem PySem.Spec PyProof.Rows L2
section
variable {P : Program} {w : World} {K : PySem.W.Frag} {mg : Str → Option Value} {base : Heap}
abbrev s__law_one_crowd : Stmt := topS 17
abbrev N__law_one_crowd : List Str := ["pot", "last", "wide", "count", "some"]
abbrev P__law_one_crowd : List Str := ["pot", "last", "wide"]
theorem sc__law_one_crowd : FnScope N__law_one_crowd P__law_one_crowd (defScope s__law_one_crowd) := ⟨rfl, rfl, rfl, by decide +kernel, rfl, by decide +kernel, by decide +kernel⟩
theorem Pot.off {H : Hp} {b : Addr} {n : Nat} (h : Pot H b n) {z : Addr} (e : H z = none) : z ≠ b := fun y => by
  obtain ⟨_, _, _, eb, _⟩ := h.ex
  rw [y, eb] at e
  cases e
theorem Pot.mut {H : Hp} {b : Addr} {n : Nat} (h : Pot H b n) {z : Addr} {o : HO} (y : z ≠ b) : Pot (upd H z o) b n := by
  obtain ⟨x, y', t, eb, r⟩ := h.ex
  exact ⟨x, y', t, by rw [upd_ne y.symm]; exact eb, r⟩
/-- nothing vanishes, nothing but the pot changes, the pot has been drawn from so often -/
structure Dr (H : Hp) (b : Addr) (n : Nat) (H' : Hp) : Prop where
  k : Kp (fun z => z ≠ b) H H'
  v : ∀ z, H' z = none → H z = none
  t : Pot H' b n
theorem Dr.start {H : Hp} {b : Addr} {n : Nat} (h : Pot H b n) : Dr H b n H := ⟨Kp.refl, fun _ e => e, h⟩
theorem Dr.same {H H' H'' : Hp} {b : Addr} {n : Nat} (h : Dr H b n H') (s : Same H' H'') : Dr H b n H'' := ⟨h.k.trans (.of s), fun z e => h.v z (s.free e), h.t.same s⟩
theorem Dr.draw {H H' H'' : Hp} {b : Addr} {n m : Nat} (h : Dr H b n H') (k : Kp (fun z => z ≠ b) H' H'') (t : Pot H'' b m) : Dr H b m H'' := ⟨h.k.trans k, fun z e => h.v z (k.none (t.off e) e), t⟩
theorem Dr.mut {H H' : Hp} {b : Addr} {n : Nat} (h : Dr H b n H') {z : Addr} {o : HO} (e : H z = none) (hb : z ≠ b) : Dr H b n (upd H' z o) := ⟨h.k.mutF e, fun y ey => by
  by_cases hz : y = z
  · rw [hz]
    exact e
  · rw [upd_ne hz] at ey
    exact h.v y ey, h.t.mut hb⟩
theorem Dr.more {H H' : Hp} {b : Addr} {n m : Nat} (h : Dr H b n H') (k : n ≤ m) : Dr H b m H' := ⟨h.k, h.v, h.t.more k⟩
theorem Dr.off {H H' : Hp} {b : Addr} {n : Nat} (h : Dr H b n H') {z : Addr} (e : H' z = none) : z ≠ b := h.t.off e
def sp__law_one_crowd : Sp := fun vs H Q _ => ∃ (b : Addr) (n : Nat) (last wide : Int), vs = [.ref b, .int last, .int wide] ∧ Pot H b n ∧ n ≤ 900000000 ∧ 0 ≤ last ∧ 6 ≤ wide ∧ wide < 2 ^ 150 ∧
  ∀ H' (t : Addr) (c : Int × Int), Dr H b (n + 10) H' → H t = none → H' t = some (.tup [.int c.1, .int c.2]) → (1 ≤ c.1 ∧ c.1 ≤ wide) ∧ 0 ≤ c.2 ∧ c.2 ≤ wide → Q (.ref t) H'
theorem ok__law_one_crowd (A : At K mg "_law_one_crowd" P__law_one_crowd s__law_one_crowd) (B : Bi mg) (D__law_draw : Df P w K mg base 1 "_law_draw" P__law_draw s__law_draw sp__law_draw) : Df P w K mg base 2 "_law_one_crowd" P__law_one_crowd s__law_one_crowd sp__law_one_crowd := by
  refine A.df fun f fd F => F.ok sc__law_one_crowd (fun vs H Q E h => ?_) (fun cdv AA outer s H vs Q E hr h => ?_)
  · obtain ⟨_, _, _, _, rfl, _⟩ := h
    rfl
  · obtain ⟨b, n, last, wide, rfl, hT, hn, l0, w6, w1, q⟩ := h
    have nd := sc__law_one_crowd.nd
    refine ⟨_, (pss_cons (ps_set (i := 3) nd rfl (.inl rfl) (pe_op op_add pe_int (pe_df D__law_draw (hr.mono (by decide)) (by rfl) (pa_cons (pv 0) (pa_cons (pe_ix ix_list (pe_lst (pa_cons pe_int (pa_cons pe_int (pa_cons (pv 2) pa_nil)))) (pe_df D__law_draw (hr.mono (by decide)) (by rfl) (pa_cons (pv 0) (pa_cons pe_int pa_nil))) (fun _ _ => rfl)) pa_nil)))))
    (pss_cons (ps_set (i := 4) nd rfl (.inl rfl) (pe_lst (pa_cons pe_int (pa_cons (pv 1) (pa_cons (pe_op op_add (pv 1) pe_int) (pa_cons (pe_df D__law_draw (hr.mono (by decide)) (by rfl) (pa_cons (pv 0) (pa_cons pe_int pa_nil))) (pa_cons (pe_df D__law_draw (hr.mono (by decide)) (by rfl) (pa_cons (pv 0) (pa_cons pe_int pa_nil))) (pa_cons (pe_df D__law_draw (hr.mono (by decide)) (by rfl) (pa_cons (pv 0) (pa_cons (pv 2) pa_nil))) pa_nil))))))))
    (pss_one (ps_ret (pe_tup (pa_cons (pv 3) (pa_cons (pe_callB (call_min2 rfl) (by rfl) B.min (by decide +kernel) (pa_cons (pe_ix ix_list (pv 4) (pe_df D__law_draw (hr.mono (by decide)) (by rfl) (pa_cons (pv 0) (pa_cons pe_int pa_nil))) (fun _ _ => rfl)) (pa_cons (pv 2) pa_nil))) pa_nil))))))), ?_⟩
    have big : ∀ {v : Int}, v < 2 ^ 150 → v < 2 ^ 200 := fun h => Int.lt_trans h (by decide)
    -- count
    refine ⟨.ref b, rfl, .int wide, rfl, (by show 3 ≤ sizeLine; decide), fun p np => ?_⟩
    have sp := same_new (o := .lst [.int 2, .int 6, .int wide]) np
    have D0 := (Dr.start hT).same sp
    have pb : p ≠ b := hT.off np
    refine ⟨.ref b, rfl, b, _, 3, rfl, D0.t, by omega, by decide, by decide, fun H1 r1 k1 T1 r10 r11 => ?_⟩
    have D1 := D0.draw k1 T1
    obtain ⟨v, hv, v1, vw⟩ := pick3 (P := fun v => 1 ≤ v ∧ v ≤ wide) r10 r11 (a := 2) (b := 6) (c := wide) ⟨by decide, by omega⟩ ⟨by decide, by omega⟩ ⟨by omega, by omega⟩
    refine ⟨p, _, _, .int v, rfl, rfl, SqL.of (k1 _ _ pb upd_same), hv, b, _, v, rfl, T1, by omega, by omega, big (by omega), fun H2 r2 k2 T2 r20 r21 => ⟨_, _, rfl, rfl, ?_⟩⟩
    dsimp only [gName]
    have D2 := D1.draw k2 T2
    -- some
    refine ⟨.int last, rfl, .int last, rfl, _, _, rfl, rfl, .ref b, rfl, b, _, 4, rfl, T2, by omega, by decide, by decide, fun H3 r3 k3 T3 r30 r31 => ⟨.ref b, rfl, b, _, 12, rfl, T3, by omega, by decide, by decide, fun H4 r4 k4 T4 r40 r41 =>
      ⟨.ref b, rfl, .int wide, rfl, b, _, wide, rfl, T4, by omega, by omega, big w1, fun H5 r5 k5 T5 r50 r51 => ⟨(by show 6 ≤ sizeLine; decide), fun p2 np2 => ?_⟩⟩⟩⟩
    dsimp only [gName]
    have D5 := ((D2.draw k3 T3).draw k4 T4).draw k5 T5
    have s6 := same_new (o := .lst [.int 0, .int last, .int (last + 1), .int r3, .int r4, .int r5]) np2
    have D6 := D5.same s6
    have p2b : p2 ≠ b := T5.off np2
    -- the pair
    refine ⟨.int (1 + r2), rfl, .ref p2, rfl, .ref b, rfl, b, _, 6, rfl, D6.t, by omega, by decide, by decide, fun H7 r7 k7 T7 r70 r71 => ?_⟩
    have D7 := D6.draw k7 T7
    obtain ⟨u, hu, mu⟩ := at_pick (xs := [V.int 0, .int last, .int (last + 1), .int r3, .int r4, .int r5]) r70 r71
    have mu' : ∃ y : Int, u = .int y ∧ 0 ≤ y := by
      simp only [List.mem_cons, List.not_mem_nil, or_false] at mu
      rcases mu with rfl | rfl | rfl | rfl | rfl | rfl
      · exact ⟨0, rfl, by decide⟩
      · exact ⟨last, rfl, l0⟩
      · exact ⟨last + 1, rfl, by omega⟩
      · exact ⟨r3, rfl, r30⟩
      · exact ⟨r4, rfl, r40⟩
      · exact ⟨r5, rfl, r50⟩
    obtain ⟨y, rfl, y0⟩ := mu'
    refine ⟨p2, _, _, .int y, rfl, rfl, SqL.of (k7 _ _ p2b upd_same), hu, .int wide, rfl, _, _, rfl, (by show 2 ≤ sizeLine; decide), fun T nT => ?_⟩
    have sT := same_new (o := .tup [.int (1 + r2), .int (if wide < y then wide else y)]) nT
    refine q _ T (1 + r2, if wide < y then wide else y) ((D7.same sT).more (by omega)) (D7.v T nT) upd_same ⟨⟨by show 1 ≤ 1 + r2; omega, by show 1 + r2 ≤ wide; omega⟩, ?_, ?_⟩
    · show 0 ≤ if wide < y then wide else y
      split <;> omega
    · show (if wide < y then wide else y) ≤ wide
      split <;> omega
end
end El
namespace El
open PySem PySem.Spec PyProof.Rows L2
section
variable {P : Program} {w : World} {K : PySem.W.Frag} {mg : Str → Option Value} {base : Heap}
abbrev s__law_lot : Stmt := topS 18
abbrev N__law_lot : List Str := ["pot", "most", "wide", "found", "last", "turn"]
abbrev P__law_lot : List Str := ["pot", "most", "wide"]
theorem sc__law_lot : FnScope N__law_lot P__law_lot (defScope s__law_lot) := ⟨rfl, rfl, rfl, by decide +kernel, rfl, by decide +kernel, by decide +kernel⟩
/-- crowds as they are drawn -/
abbrev Lots (wide : Int) (cs : List (Int × Int)) : Prop := ∀ c ∈ cs, (1 ≤ c.1 ∧ c.1 ≤ wide) ∧ 0 ≤ c.2 ∧ c.2 ≤ wide
theorem off_tops {H : Hp} {B : Addr → Prop} {a : Addr} {ts : List Addr} {gs : List (Int × Int)} (h : GsAt H B a ts gs) : a ∉ ts := fun m => by
  obtain ⟨i, e⟩ := List.mem_iff_getElem?.mp m
  have hl := at_lt e
  rw [h.len] at hl
  obtain ⟨g, eg⟩ := at_some hl
  have e1 := h.at' i a g e eg
  rw [h.top] at e1
  cases e1
def sp__law_lot : Sp := fun vs H Q _ => ∃ (b : Addr) (n : Nat) (most wide : Int), vs = [.ref b, .int most, .int wide] ∧ Pot H b n ∧ n ≤ 800000000 ∧ 0 ≤ most ∧ most ≤ 50 ∧ 6 ≤ wide ∧ wide < 2 ^ 150 ∧
  ∀ H' q us cs, Dr H b (n + 600) H' → GsAt H' (fun z => H z = none) q us cs → (cs.length : Int) ≤ most → Lots wide cs → Q (.ref q) H'
theorem ok__law_lot (A : At K mg "_law_lot" P__law_lot s__law_lot) (B : Bi mg) (D__law_draw : Df P w K mg base 1 "_law_draw" P__law_draw s__law_draw sp__law_draw) (D__law_one_crowd : Df P w K mg base 2 "_law_one_crowd" P__law_one_crowd s__law_one_crowd sp__law_one_crowd) : Df P w K mg base 3 "_law_lot" P__law_lot s__law_lot sp__law_lot := by
  refine A.df fun f fd F => F.ok sc__law_lot (fun vs H Q E h => ?_) (fun cdv AA outer s H vs Q E hr h => ?_)
  · obtain ⟨_, _, _, _, rfl, _⟩ := h
    rfl
  · obtain ⟨b, n, most, wide, rfl, hT, hn, m0, m50, w6, w1, q⟩ := h
    have nd := sc__law_lot.nd
    refine ⟨_, (pss_cons (ps_set (i := 3) nd rfl (.inl rfl) (pe_lst pa_nil))
    (pss_cons (ps_set (i := 4) nd rfl (.inl rfl) pe_int)
    (pss_cons (ps_for PassesOwn.never rfl (pi_range1 (by rfl) B.range (pa_cons (pe_df D__law_draw (hr.mono (by decide)) (by rfl) (pa_cons (pv 0) (pa_cons (pe_op op_add (pv 1) pe_int) pa_nil))) pa_nil)) (pg_name (i := 5) nd rfl (.inl rfl)) (pss_cons (ps_expr (pe_bm PySem.F.plainAttrs_list PySem.F.slot_list_append PySem.F.type_list_append mt_append (pv 3) (pa_cons (pe_df D__law_one_crowd (hr.mono (by decide)) (by rfl) (pa_cons (pv 0) (pa_cons (pv 4) (pa_cons (pv 2) pa_nil)))) pa_nil))) (pss_one (ps_set (i := 4) nd rfl (.inl rfl) (pe_ix ix_tup (pe_ix ix_list (pv 3) (pe_un un_neg pe_int) (fun _ _ => rfl)) pe_int (fun _ _ => rfl))))))
    (pss_one (ps_ret (pv 3)))))), ?_⟩
    refine ⟨Nat.zero_le _, fun fo nfo => ?_⟩
    have s1 := same_new (o := .lst []) nfo
    have nfb : fo ≠ b := hT.off nfo
    dsimp only [gName]
    refine seq_set ?_
    refine seq_to (fun σ H2 => ∃ y4 y5 us cs, σ = [some (.ref b), some (.int most), some (.int wide), some (.ref fo), y4, y5] ∧ Dr H b (n + 600) H2 ∧ GsAt H2 (fun z => H z = none) fo us cs ∧ (cs.length : Int) ≤ most ∧ Lots wide cs) (fun X hX => ?_) (fun σ H2 hE => ?_)
    · refine ⟨.ref b, rfl, .int most, rfl, _, _, rfl, rfl, b, n, _, rfl, hT.same s1, by omega, by omega, Int.lt_of_le_of_lt (show most + 1 ≤ 51 by omega) (by decide), fun Hd r kd Td r0 r1 => ⟨_, rfl, by omega, by omega, ?_⟩⟩
      refine for_it walk_range (fun k σ H2 => ∃ last y5 us cs, σ = [some (.ref b), some (.int most), some (.int wide), some (.ref fo), some (.int last), y5] ∧ 0 ≤ last ∧ Dr H b (n + 1 + 10 * k) H2 ∧ GsAt H2 (fun z => H z = none) fo us cs ∧ cs.length = k ∧ Lots wide cs)
        ⟨0, _, [], [], rfl, Int.le_refl _, ((Dr.start hT).same s1).draw kd Td, ⟨kd _ _ nfb upd_same, nfo, rfl, fun i t g e _ => by simp at e, fun t m => (List.not_mem_nil m).elim⟩, rfl, fun c m => (List.not_mem_nil m).elim⟩ (fun _ _ _ _ _ => trivial) (fun k v σ H2 H3 hk hW hY => ?_) (fun σ H2 hW => ?_)
      · obtain ⟨last, y5, us, cs, rfl, l0, D2, G2, lcs, hcs⟩ := hW
        obtain ⟨rfl, rfl⟩ := hY
        have hk50 : k < 51 := by omega
        refine ⟨.ref fo, rfl, .inl ⟨rfl, _, G2.seq⟩, .ref b, rfl, .int last, rfl, .int wide, rfl, b, _, last, wide, rfl, D2.t, by omega, l0, w6, w1, fun Hc T c Dc nT eT hc => ?_⟩
        have nF : ∀ z, H z = none → z ≠ b := fun z e => hT.off e
        have Gc := G2.keep (Dc.k.weak nF)
        have Dc' := D2.draw Dc.k Dc.t
        have nT0 : H T = none := D2.v T nT
        have hD : fo ∉ us := off_tops Gc
        have Tfo : T ≠ fo := fun z => by rw [z, G2.top] at nT; cases nT
        refine ⟨fo, _, .ref T, rfl, rfl, Gc.top, ils (by rw [List.length_map, Gc.len]; omega), ?_⟩
        have GF := Gc.push hD (q := T) (g := c) eT nT0
        have DF : Dr H b (n + 1 + 10 * k + 10) (upd Hc fo (.lst (us.map V.ref ++ [.ref T]))) := Dc'.mut nfo nfb
        refine ⟨.ref fo, rfl, 1, rfl, fo, _, -1, .ref T, rfl, rfl, SqL.of upd_same, atI_last _ _, T, _, 1, .int c.2, rfl, rfl, SqT.of ((upd_ne Tfo).trans eT), rfl, ?_⟩
        refine ⟨c.2, _, us ++ [T], cs ++ [c], rfl, hc.2.1, DF.more (by omega), GF, by rw [List.length_append, lcs]; rfl, fun x m => ?_⟩
        rcases List.mem_append.mp m with m | m
        · exact hcs x m
        · rw [List.mem_singleton.mp m]
          exact hc
      · obtain ⟨last, y5, us, cs, rfl, l0, D2, G2, lcs, hcs⟩ := hW
        exact hX _ _ ⟨_, _, us, cs, rfl, D2.more (by omega), G2, by omega, hcs⟩
    · obtain ⟨y4, y5, us, cs, rfl, D2, G2, lcs, hcs⟩ := hE
      exact ⟨_, rfl, q H2 fo us cs D2 G2 lcs hcs⟩
end
end El
namespace El
open PySem PySem.Spec PyProof.Rows L2
/-- [f(x) for x in L], ints to ints, where f may make something on its way -/
theorem lc_intsG {K : PySem.W.Frag} {a D : Addr} {L : List Int} {i : Nat} {te : TE} {vs : List Nat} {σ : L2.St} {H1 : Hp} {Qd : Hp → Prop} (f : Int → Int) (hL : H1 a = some (.lst (L.map V.int))) (hD : H1 D = none) (hl : L.length ≤ 1000)
    (he : ∀ (z : Int) (H' : Hp), z ∈ L → Same H1 H' → ∀ Q : VK, (∀ H'', Same H' H'' → Q (.int (f z)) H'') → te ((wipe σ vs).set i (some (.int z))) H' Q) (hw : ∀ z : Int, wipe ((wipe σ vs).set i (some (.int z))) vs = wipe σ vs)
    (hd : ∀ H2, Same H1 H2 → H2 D = some (.lst ((L.map f).map V.int)) → Qd H2) :
    ∃ W : Nat → Nat → Hp → Prop, (∃ m, W 0 m (upd H1 D (.lst []))) ∧ ∀ k m H, W k m H →
      ((Itl K a).stop k H ∧ Qd H) ∨ ((Itl K a).go k H ∧ ∃ Nx : Hp → Prop, (∀ H', Nx H' → ∃ m', m' < m ∧ W (k + 1) m' H') ∧ ∀ x H', (Itl K a).yld k H x H' → gName i x (wipe σ vs) H' fun σ2 H2 => wipe σ2 vs = wipe σ vs ∧ tYes σ2 H2 fun b H3 =>
        if b = true then te σ2 H3 fun y H4 => ∃ acc, H4 D = some (.lst acc) ∧ acc.length < sizeLine ∧ Nx (upd H4 D (.lst (acc ++ [y]))) else Nx H3) := by
  refine lc_it (walk_list (xs := L.map V.int)) (fun k H2 => Same H1 H2 ∧ H2 D = some (.lst (((L.take k).map f).map V.int))) ⟨same_new hD, upd_same⟩ (fun k H2 _ hW => SqL.of (hW.1 _ _ hL)) (fun k x H2 H3 hk hW hY => ?_) (fun H2 hW => ?_)
  · obtain ⟨sm, e⟩ := hW
    obtain ⟨rfl, hx⟩ := hY
    obtain ⟨z, ez, rfl⟩ := ints_at hx
    refine ⟨hw z, he z H3 (List.mem_of_getElem? ez) sm _ fun H4 s4 => ⟨_, s4 _ _ e, ils (by rw [List.length_map, List.length_map, List.length_take]; omega), Same.mut (sm.trans s4) hD, ?_⟩⟩
    rw [upd_same, take_snoc ez, List.map_append, List.map_append]
    rfl
  · obtain ⟨sm, e⟩ := hW
    rw [List.length_map, List.take_length] at e
    exact hd H2 sm e
end El
namespace El
open PySem PySem.Spec PyProof.Rows L2
/-- [x for x in A if f(x)] -/
theorem lc_sel {K : PySem.W.Frag} {a D : Addr} {A : List Int} {i : Nat} {tt : TT} {te : TE} {vs : List Nat} {σ : L2.St} {H1 : Hp} {Qd : Hp → Prop} (f : Int → Bool) (hA : H1 a = some (.lst (A.map V.int))) (hD : H1 D = none) (hl : A.length ≤ 1000)
    (ht : ∀ (z : Int) (H' : Hp) (Q : Bool → Hp → Prop), Q (f z) H' → tt ((wipe σ vs).set i (some (.int z))) H' Q)
    (he : ∀ (z : Int) (H' : Hp) (Q : VK), Q (.int z) H' → te ((wipe σ vs).set i (some (.int z))) H' Q) (hw : ∀ z : Int, wipe ((wipe σ vs).set i (some (.int z))) vs = wipe σ vs)
    (hd : ∀ H2, Same H1 H2 → H2 D = some (.lst ((A.filter f).map V.int)) → Qd H2) :
    ∃ W : Nat → Nat → Hp → Prop, (∃ m, W 0 m (upd H1 D (.lst []))) ∧ ∀ k m H, W k m H →
      ((Itl K a).stop k H ∧ Qd H) ∨ ((Itl K a).go k H ∧ ∃ Nx : Hp → Prop, (∀ H', Nx H' → ∃ m', m' < m ∧ W (k + 1) m' H') ∧ ∀ x H', (Itl K a).yld k H x H' → gName i x (wipe σ vs) H' fun σ2 H2 => wipe σ2 vs = wipe σ vs ∧ tt σ2 H2 fun b H3 =>
        if b = true then te σ2 H3 fun y H4 => ∃ acc, H4 D = some (.lst acc) ∧ acc.length < sizeLine ∧ Nx (upd H4 D (.lst (acc ++ [y]))) else Nx H3) := by
  refine lc_it (walk_list (xs := A.map V.int)) (fun k H2 => Same H1 H2 ∧ H2 D = some (.lst (((A.take k).filter f).map V.int))) ⟨same_new hD, upd_same⟩ (fun k H2 _ hW => SqL.of (hW.1 _ _ hA)) (fun k x H2 H3 hk hW hY => ?_) (fun H2 hW => ?_)
  · obtain ⟨sm, e⟩ := hW
    obtain ⟨rfl, hx⟩ := hY
    obtain ⟨z, ez, rfl⟩ := ints_at hx
    refine ⟨hw z, ht z H3 _ ?_⟩
    have hlb : ((A.take k).filter f).length ≤ 1000 := by
      refine Nat.le_trans (List.length_filter_le _ _) ?_
      rw [List.length_take]
      omega
    have es : (A.take (k + 1)).filter f = (A.take k).filter f ++ if f z = true then [z] else [] := by
      rw [take_snoc ez, List.filter_append, List.filter_cons, List.filter_nil]
    split
    · rename_i hb
      refine he z H3 _ ⟨_, e, ils (by rw [List.length_map]; omega), Same.mut sm hD, ?_⟩
      rw [upd_same, es, if_pos hb, List.map_append]
      rfl
    · rename_i hb
      refine ⟨sm, ?_⟩
      rw [es, if_neg hb, List.append_nil]
      exact e
  · obtain ⟨sm, e⟩ := hW
    rw [List.length_map, List.take_length] at e
    exact hd H2 sm e
/-- the same, where the test may make something -/
theorem lc_selG {K : PySem.W.Frag} {a D : Addr} {A : List Int} {i : Nat} {tt : TT} {te : TE} {vs : List Nat} {σ : L2.St} {H1 : Hp} {Qd : Hp → Prop} (f : Int → Bool) (hA : H1 a = some (.lst (A.map V.int))) (hD : H1 D = none) (hl : A.length ≤ 1000)
    (ht : ∀ (z : Int) (H' : Hp) (Q : Bool → Hp → Prop), Same H1 H' → (∀ H'', Same H' H'' → Q (f z) H'') → tt ((wipe σ vs).set i (some (.int z))) H' Q)
    (he : ∀ (z : Int) (H' : Hp) (Q : VK), Q (.int z) H' → te ((wipe σ vs).set i (some (.int z))) H' Q) (hw : ∀ z : Int, wipe ((wipe σ vs).set i (some (.int z))) vs = wipe σ vs)
    (hd : ∀ H2, Same H1 H2 → H2 D = some (.lst ((A.filter f).map V.int)) → Qd H2) :
    ∃ W : Nat → Nat → Hp → Prop, (∃ m, W 0 m (upd H1 D (.lst []))) ∧ ∀ k m H, W k m H →
      ((Itl K a).stop k H ∧ Qd H) ∨ ((Itl K a).go k H ∧ ∃ Nx : Hp → Prop, (∀ H', Nx H' → ∃ m', m' < m ∧ W (k + 1) m' H') ∧ ∀ x H', (Itl K a).yld k H x H' → gName i x (wipe σ vs) H' fun σ2 H2 => wipe σ2 vs = wipe σ vs ∧ tt σ2 H2 fun b H3 =>
        if b = true then te σ2 H3 fun y H4 => ∃ acc, H4 D = some (.lst acc) ∧ acc.length < sizeLine ∧ Nx (upd H4 D (.lst (acc ++ [y]))) else Nx H3) := by
  refine lc_it (walk_list (xs := A.map V.int)) (fun k H2 => Same H1 H2 ∧ H2 D = some (.lst (((A.take k).filter f).map V.int))) ⟨same_new hD, upd_same⟩ (fun k H2 _ hW => SqL.of (hW.1 _ _ hA)) (fun k x H2 H3 hk hW hY => ?_) (fun H2 hW => ?_)
  · obtain ⟨sm, e⟩ := hW
    obtain ⟨rfl, hx⟩ := hY
    obtain ⟨z, ez, rfl⟩ := ints_at hx
    refine ⟨hw z, ht z H3 _ sm fun H4 s4 => ?_⟩
    have hlb : ((A.take k).filter f).length ≤ 1000 := by
      refine Nat.le_trans (List.length_filter_le _ _) ?_
      rw [List.length_take]
      omega
    have es : (A.take (k + 1)).filter f = (A.take k).filter f ++ if f z = true then [z] else [] := by
      rw [take_snoc ez, List.filter_append, List.filter_cons, List.filter_nil]
    split
    · rename_i hb
      refine he z H4 _ ⟨_, s4 _ _ e, ils (by rw [List.length_map]; omega), Same.mut (sm.trans s4) hD, ?_⟩
      rw [upd_same, es, if_pos hb, List.map_append]
      rfl
    · rename_i hb
      refine ⟨sm.trans s4, ?_⟩
      rw [es, if_neg hb, List.append_nil]
      exact s4 _ _ e
  · obtain ⟨sm, e⟩ := hW
    rw [List.length_map, List.take_length] at e
    exact hd H2 sm e
end El
namespace El
open PySem PySem.Spec PyProof.Rows L2
section
variable {P : Program} {w : World} {K : PySem.W.Frag} {mg : Str → Option Value} {base : Heap}
abbrev s__law_rooms_at : Stmt := topS 19
abbrev N__law_rooms_at : List Str := ["pot", "told", "edges", "size", "many", "some", "turn", "spot"]
abbrev P__law_rooms_at : List Str := ["pot", "told"]
theorem sc__law_rooms_at : FnScope N__law_rooms_at P__law_rooms_at (defScope s__law_rooms_at) := ⟨rfl, rfl, rfl, by decide +kernel, rfl, by decide +kernel, by decide +kernel⟩
/-- how many rooms stand ahead of the k-th size -/
def edgesOf (R : List (Int × Int)) (i : Nat) : List Int := (List.range (i + 1)).map fun k => ((ex (R.take k)).length : Int)
theorem edges_snoc (R : List (Int × Int)) (i : Nat) : edgesOf R (i + 1) = edgesOf R i ++ [((ex (R.take (i + 1))).length : Int)] := by
  unfold edgesOf
  rw [List.range_succ, List.map_append]
  rfl
theorem ex_take_le (R : List (Int × Int)) (k : Nat) : (ex (R.take k)).length ≤ (ex R).length := by
  have e : ex R = ex (R.take k) ++ ex (R.drop k) := by rw [← ex_append, List.take_append_drop]
  rw [e, List.length_append]
  exact Nat.le_add_right _ _
def sp__law_rooms_at : Sp := fun vs H Q _ => ∃ (B : Addr → Prop) (b a : Addr) (n : Nat) (ts : List Addr) (R : List (Int × Int)), vs = [.ref b, .ref a] ∧ Pot H b n ∧ n ≤ 900000000 ∧ GsAt H B a ts R ∧ (∀ z, B z → z ≠ b) ∧ (∀ r ∈ R, 0 < r.2) ∧ R.length ≤ 500 ∧ (ex R).length < 2 ^ 180 ∧
  ∀ H' (q : Addr) (xs : List Int), Dr H b (n + 20) H' → H q = none → H' q = some (.lst (xs.map V.int)) → xs.length = 6 → (∀ x ∈ xs, 0 ≤ x ∧ x < 2 ^ 185) → ((ex R).length : Int) ∈ xs → Q (.ref q) H'
theorem ok__law_rooms_at (A : At K mg "_law_rooms_at" P__law_rooms_at s__law_rooms_at) (B : Bi mg) (D__law_draw : Df P w K mg base 1 "_law_draw" P__law_draw s__law_draw sp__law_draw) : Df P w K mg base 2 "_law_rooms_at" P__law_rooms_at s__law_rooms_at sp__law_rooms_at := by
  refine A.df fun f fd F => F.ok sc__law_rooms_at (fun vs H Q E h => ?_) (fun cdv AA outer s H vs Q E hr h => ?_)
  · obtain ⟨_, _, _, _, _, _, rfl, _⟩ := h
    rfl
  · obtain ⟨BB, b, a, n, ts, R, rfl, hT, hn, hG, hB, hp, hl, hx, q⟩ := h
    have nd := sc__law_rooms_at.nd
    refine ⟨_, (pss_cons (ps_set (i := 2) nd rfl (.inr rfl) (pe_lst (pa_cons pe_int pa_nil)))
    (pss_cons (ps_for PassesOwn.never rfl (pi_list (pv 1)) (pg_tup (by rfl) (pgs_cons (pg_name (i := 3) nd rfl (.inl rfl)) (pgs_cons (pg_name (i := 4) nd rfl (.inl rfl)) pgs_nil))) (pss_one (ps_expr (pe_bm PySem.F.plainAttrs_list PySem.F.slot_list_append PySem.F.type_list_append mt_append (pv 2) (pa_cons (pe_op op_add (pe_ix ix_list (pv 2) (pe_un un_neg pe_int) (fun _ _ => rfl)) (pv 4)) pa_nil)))))
    (pss_cons (ps_setLc (i := 5) (own := [("turn", 6)]) (tt := tYes) rfl nd rfl rfl (sw_true rfl rfl rfl (by decide +kernel)) (pi_range1 (by rfl) B.range (pa_cons pe_int pa_nil)) (blkOk_by (N := N__law_rooms_at) (sc := defScope s__law_rooms_at) (by decide +kernel)) (fun _ _ _ _ _ => (pg_name (i := 6) nd rfl (.inl rfl))) (fun _ _ _ _ _ => pts_nil) (fun _ _ _ _ _ => (pe_op op_sub (pe_op op_add (pe_ix (ixlK K) (pv 2) (pe_df D__law_draw (hr.mono (by decide)) (by rfl) (pa_cons (pv 0) (pa_cons (pe_callB (lenK K) (by rfl) B.len PySem.boot_len (pa_cons (pv 2) pa_nil)) pa_nil))) (fun _ _ => rfl)) (pe_df D__law_draw (hr.mono (by decide)) (by rfl) (pa_cons (pv 0) (pa_cons pe_int pa_nil)))) pe_int)))
    (pss_one (ps_ret (pe_op op_cat (pe_lc (own := [("spot", 7)]) (tt := tYes) rfl nd (pi_list (pv 5)) (blkOk_by (N := N__law_rooms_at) (sc := defScope s__law_rooms_at) (by decide +kernel)) (fun _ _ _ _ _ => (pg_name (i := 7) nd rfl (.inl rfl))) (fun _ _ _ _ _ => pts_nil) (fun _ _ _ _ _ => (pe_callB (call_max2 rfl) (by rfl) B.max (by decide +kernel) (pa_cons pe_int (pa_cons (pv 7) pa_nil))))) (pe_lst (pa_cons (pe_ix ix_list (pv 2) (pe_un un_neg pe_int) (fun _ _ => rfl)) pa_nil)))))))), ?_⟩
    refine ⟨(by show 1 ≤ sizeLine; decide), fun fo nfo => ?_⟩
    dsimp only [gName]
    have s0 := same_new (o := .lst [.int 0]) nfo
    have nfb : fo ≠ b := hT.off nfo
    refine seq_to (fun σ H2 => ∃ y3 y4, σ = [some (.ref b), some (.ref a), some (.ref fo), y3, y4, none, none, none] ∧ Same H H2 ∧ H2 fo = some (.lst ((edgesOf R R.length).map V.int))) (fun X hX => ?_) (fun σ H2 hE => ?_)
    · refine ⟨.ref a, rfl, a, rfl, ⟨_, (hG.same s0).seq⟩, ?_⟩
      refine for_it (walk_list (xs := ts.map V.ref)) (fun i σ H2 => ∃ y3 y4, σ = [some (.ref b), some (.ref a), some (.ref fo), y3, y4, none, none, none] ∧ Same H H2 ∧ H2 fo = some (.lst ((edgesOf R i).map V.int)))
        ⟨_, _, rfl, s0, by rw [upd_same]; rfl⟩ (fun i σ H2 _ hW => ?_) (fun i v σ H2 H3 hi hW hY => ?_) (fun σ H2 hW => ?_)
      · obtain ⟨_, _, _, s2, _⟩ := hW
        exact (hG.same s2).seq
      · obtain ⟨y3, y4, rfl, s2, e2⟩ := hW
        obtain ⟨rfl, hx2⟩ := hY
        obtain ⟨t, r, rfl, er, et⟩ := (hG.same s2).get hx2
        have hi' := at_lt er
        have hr0 := hp r (List.mem_of_getElem? er)
        refine ⟨t, _, rfl, SqT.of et, rfl, .int r.1, _, rfl, .int r.2, _, rfl, rfl, ?_⟩
        have elast : atI ((edgesOf R i).map V.int) (-1) = some (.int ((ex (R.take i)).length : Int)) := by
          cases i with
          | zero => rfl
          | succ i =>
            rw [edges_snoc, List.map_append]
            exact atI_last _ _
        have enext : (((ex (R.take i)).length : Nat) : Int) + r.2 = ((ex (R.take (i + 1))).length : Nat) := by
          rw [take_snoc er, ex_append, ex_cons, ex_nil, List.append_nil, List.length_append, List.length_replicate]
          omega
        refine ⟨.ref fo, rfl, .inl ⟨rfl, _, SqL.of e2⟩, .ref fo, rfl, 1, rfl, fo, _, -1, .int ((ex (R.take i)).length : Int), rfl, rfl, SqL.of e2, elast, .int r.2, rfl, _, _, rfl, rfl, fo, _, _, rfl, rfl, e2, ils ?_, ?_⟩
        · unfold edgesOf
          rw [List.length_map, List.length_map, List.length_range]
          omega
        · refine ⟨_, _, rfl, Same.mut s2 nfo, ?_⟩
          rw [upd_same, edges_snoc, List.map_append, ← enext]
          rfl
      · obtain ⟨y3, y4, rfl, s2, e2⟩ := hW
        rw [List.length_map, hG.len] at e2
        exact hX _ _ ⟨_, _, rfl, s2, e2⟩
    · obtain ⟨y3, y4, rfl, s2, e2⟩ := hE
      have D2 := (Dr.start hT).same s2
      have le : (edgesOf R R.length).length = R.length + 1 := by
        unfold edgesOf
        rw [List.length_map, List.length_range]
      have inE : ∀ z ∈ edgesOf R R.length, 0 ≤ z ∧ z < 2 ^ 180 := fun z m => by
        obtain ⟨k, _, rfl⟩ := List.mem_map.mp m
        have := ex_take_le R k
        exact ⟨Int.natCast_nonneg _, by omega⟩
      -- some
      refine ⟨_, rfl, by decide, by decide, fun d nd2 => ?_⟩
      have db : d ≠ b := D2.off nd2
      have dfo : fo ≠ d := ne_of_none e2 nd2
      have ndH : H d = none := s2.free nd2
      refine lc_it walk_range (fun k Hx => ∃ acc : List Int, Dr H b (n + 2 * k) Hx ∧ Hx fo = some (.lst ((edgesOf R R.length).map V.int)) ∧ Hx d = some (.lst (acc.map V.int)) ∧ acc.length = k ∧ ∀ x ∈ acc, x < 2 ^ 185)
        ⟨[], D2.mut ndH db, by rw [upd_ne dfo]; exact e2, upd_same, rfl, fun x m => (List.not_mem_nil m).elim⟩ (fun _ _ _ _ => trivial) (fun k v Hx Hy hk hW hY => ?_) (fun Hx hW => ?_)
      · obtain ⟨acc, Dx, ex2, exd, lx, hx3⟩ := hW
        obtain ⟨rfl, rfl⟩ := hY
        have hk5 : k < 5 := hk
        refine ⟨rfl, .ref fo, rfl, .ref b, rfl, .ref fo, rfl, fo, _, rfl, .inl (SqL.of ex2), b, _, _, rfl, Dx.t, by omega, ?_, ?_, fun Hz r kz Tz r0 r1 => ?_⟩
        · rw [List.length_map, le]
          omega
        · rw [List.length_map, le]
          exact Int.lt_of_le_of_lt (show ((R.length + 1 : Nat) : Int) ≤ 501 by omega) (by decide)
        rw [List.length_map] at r1
        obtain ⟨z, hz, z0, z1⟩ := pickL (P := fun z => 0 ≤ z ∧ z < 2 ^ 180) r0 r1 inE
        refine ⟨fo, _, _, .int z, rfl, rfl, SqL.of (kz _ _ nfb ex2), hz, .ref b, rfl, b, _, 3, rfl, Tz, by omega, by decide, by decide, fun Ha ra ka Ta ra0 ra1 => ⟨_, _, rfl, rfl, _, _, rfl, rfl, ?_⟩⟩
        have Dz := (Dx.draw kz Tz).draw ka Ta
        refine ⟨_, ka _ _ db (kz _ _ db exd), ils (by rw [List.length_map]; omega), acc ++ [z + ra - 1], (Dz.mut ndH db).more (by omega), ?_, ?_, ?_, fun x m => ?_⟩
        · rw [upd_ne dfo]
          exact ka _ _ nfb (kz _ _ nfb ex2)
        · rw [upd_same, List.map_append]
          rfl
        · rw [List.length_append, lx]
          rfl
        · rcases List.mem_append.mp m with m | m
          · exact hx3 x m
          · rw [List.mem_singleton.mp m]
            omega
      · obtain ⟨acc, Dx, ex2, exd, lx, hx3⟩ := hW
        have lx : acc.length = 5 := lx
        dsimp only [gName]
        refine ⟨.ref d, rfl, d, rfl, ⟨_, SqL.of exd⟩, fun d2 nd3 => ?_⟩
        refine lc_ints (fun z => if 0 < z then z else 0) exd nd3 (by omega) (fun k z H' _ _ Q q => ?_) (fun _ => rfl) fun Ha sa ea => ?_
        · exact ⟨.int z, rfl, _, _, rfl, q⟩
        have elast : atI ((edgesOf R R.length).map V.int) (-1) = some (.int ((ex R).length : Int)) := by
          cases hR : R.length with
          | zero =>
            have : R = [] := List.eq_nil_of_length_eq_zero hR
            subst this
            rfl
          | succ i =>
            rw [edges_snoc, List.map_append, ← hR, List.take_length]
            exact atI_last _ _
        refine ⟨.ref fo, rfl, 1, rfl, fo, _, -1, .int ((ex R).length : Int), rfl, rfl, SqL.of (sa _ _ ex2), elast, (by show 1 ≤ sizeLine; decide), fun l nl => ?_⟩
        have sl := same_new (o := .lst [.int ((ex R).length : Int)]) nl
        refine ⟨d2, l, _, _, rfl, rfl, sl _ _ ea, upd_same, ?_, fun m nm => ?_⟩
        · rw [List.length_map, List.length_map, lx]
          show 6 ≤ sizeLine
          decide
        have sm := same_new (o := .lst ((acc.map fun z => if 0 < z then z else 0).map V.int ++ [.int ((ex R).length : Int)])) nm
        have Dm := ((Dx.same sa).same sl).same sm
        refine q _ m ((acc.map fun z => if 0 < z then z else 0) ++ [((ex R).length : Int)]) (Dm.more (by omega)) (Dx.v _ (sa.free (sl.free nm))) ?_ ?_ (fun x mx => ?_) (List.mem_append_right _ List.mem_cons_self)
        · rw [upd_same, List.map_append]
          rfl
        · rw [List.length_append, List.length_map, lx]
          rfl
        · rcases List.mem_append.mp mx with mx | mx
          · obtain ⟨y, my, rfl⟩ := List.mem_map.mp mx
            have := hx3 y my
            show 0 ≤ (if 0 < y then y else 0) ∧ (if 0 < y then y else 0) < 2 ^ 185
            split <;> omega
          · rw [List.mem_singleton.mp mx]
            exact ⟨Int.natCast_nonneg _, by omega⟩
end
end El
namespace El
open PySem PySem.Spec PyProof.Rows L2
/-! set(xs) and sorted(set(..)) of ints, as many as a set may have -/
section
variable {P : Program} {w : World} {A : Around} {E : Value → Shared → Prop} {s : Shared}
theorem ints_get : ∀ {us : List Value} {ns : List Int} {i : Nat} {v : Value}, IntsAre us ns → us[i]? = some v → ∃ k t, ns[i]? = some k ∧ v = .int k t
  | _, _, 0, _, .cons n t _, e => ⟨n, t, rfl, (Option.some.inj e).symm⟩
  | _, _, i + 1, _, .cons _ _ r, e => ints_get (i := i) r e
theorem set_of_list (calm : A.handled = none) {l : Addr} {us : List Value} {ns : List Int} {Q : Value → Shared → Prop} (hl : s.heap.IsList l us.toArray) (hi : IntsAre us ns) (few : ns.length + 1 < scanBound)
    (fin : ∀ (s' : Shared) (S : Addr) (c : Nat), (∀ b o, s.heap.get? b = some o → s'.heap.get? b = some o) → s'.gens = s.gens → s'.drawn = s.drawn → s'.os = s.os → s.heap.objs.size ≤ S → c ≤ ns.length →
      SetR w s'.heap S (fun j => decide (j ∈ ns)) c → Q (.ref S) s') : wpAny (model P w) A (call (.type "set") [.ref l]) Q E s := by
  have T := PySem.F.called_set
  have ⟨_, _, order⟩ := T.mro
  have by_new := T.made
  have is_set := T.sub
  have no_type := T.notType
  have makes := T.canCreate
  have fits := PySem.F.typeCall_set_1 (.ref l)
  refine wpAny_call (codeAny_of_tree (wpAny_pure ⟨Code.quiet_builtin _ (by decide +kernel), codeAny_builtin PySem.F.entry_type_call ?_⟩))
  rw [Around.under_plain (weight_type_call_type "set" [.ref l] []) rfl]
  repeat (any_goals (first | assumption | wp_step))
  generalize hS : s.heap.objs.size = S at fin
  generalize hg : s.heap.push { cls := .type "set", dict := none, data := .set #[] 0 (.fresh 0 0 (!w.params.followText "set-order")) } = g
  have at_S : g.get? S = some { cls := .type "set", dict := none, data := .set #[] 0 (.fresh 0 0 (!w.params.followText "set-order")) } := by rw [← hg, ← hS]; exact Heap.get?_push_size _ rfl
  have stays : ∀ b o, s.heap.get? b = some o → g.get? b = some o := fun b o e => hg ▸ Heap.get?_push_of_some _ e
  have ty : Shared.TypeIs { s with heap := g } (.ref S) "set" := ⟨_, at_S, rfl⟩
  refine codeAny_mono (code_set_led1 (.ref l) (E := E) (Q₁ := fun o s1 => o = .ref S ∧ s1 = { s with heap := g }) (by rw [hS, hg]; exact ⟨rfl, rfl⟩)) fun r s1 got => ?_
  rcases r with e | fl
  · exact got
  · obtain ⟨v, rfl⟩ : ∃ v, fl = .ret v := by
      cases fl with
      | ret v => exact ⟨v, rfl⟩
      | _ => exact got.elim
    obtain ⟨rfl, rfl⟩ : v = .ref S ∧ s1 = { s with heap := g } := got
    refine wpAny_bind (wpAny_isInstance ty is_set ?_)
    refine wpAny_ite_split (fun no => nomatch no) fun _ => ?_
    refine wpAny_bind (wpAny_holding (wpAny_callSpecial?_slot ty T.init (wpAny_call (codeAny_call_builtin T.init.plain PySem.F.entry_set_init ?_))))
    refine check_set_init_1 ty ?_
    have lt : ({ s with heap := g } : Shared).TypeIs (.ref l) "list" := ⟨_, stays _ _ hl.choose_spec.1, hl.choose_spec.2.1⟩
    have not_set : isSubtype (.type "list") (.type "set") = pure false := by rw [isSubtype_type]; kernel_rfl
    have not_frozen : isSubtype (.type "list") (.type "frozenset") = pure false := by rw [isSubtype_type]; kernel_rfl
    unfold Builtin.«set.__init__»
    have there : g.IsList l us.toArray := let ⟨o, a, r⟩ := hl; ⟨o, stays _ _ a, r⟩
    repeat (any_goals (first | assumption | (with_reducible refine wpAny_pyIter_list there ?_) | ((fail_if_success with_reducible refine wpAny_runValue ?_); wp_step)))
    have far : l < g.objs.size := let ⟨_, a, _⟩ := there; Heap.lt_size a
    have farS : S < g.objs.size := Heap.lt_size at_S
    have lS : l ≠ S := let ⟨_, a, _⟩ := hl; Nat.ne_of_lt (hS ▸ Heap.lt_size a)
    have walk := (Walks.list (prog := P) (w := w) (A := A.in1.in1.in1) calm g.objs.size l (Nat.ne_of_lt far) us.toArray).toS
    refine wpAny_runValue (set_update_ints walk S (by simp [Nat.ne_of_lt farS, lS.symm]) ns (by rw [List.size_toArray, IntsAre.length hi]) few (fun i v e => ints_get hi (by rw [List.getElem?_toArray] at e; exact e)) us.length 0 _ (by rw [List.size_toArray, Nat.sub_zero]) (Nat.zero_le _)
      ⟨⟨_, Heap.get?_push_size _ rfl, rfl, rfl⟩, there.push _⟩ ⟨0, Nat.le_refl _, setR_new_at (Heap.get?_push_of_some _ at_S)⟩ fun s' c moved hc made => ?_)
    refine wpAny_pure (wpAny_pure ?_)
    refine wpAny_pure ?_
    refine fin s' S c (fun b o e => ?_) moved.gens moved.drawn moved.os (Nat.le_refl _) (by rw [List.size_toArray, IntsAre.length hi] at hc; exact hc) made
    have hb : b < S := hS ▸ Heap.lt_size e
    exact moved.heap b o (by simp [Nat.ne_of_lt hb, Nat.ne_of_lt (Nat.lt_trans hb farS)]) (Heap.get?_push_of_some _ (stays b o e))
end
end El
namespace El
open PySem PySem.Spec PyProof.Rows L2
section
variable {X : Cx}
theorem inv_grown {pins : List (Addr × Obj)} {σ : L2.St} {H : Hp} {s s1 : Shared} (I : Inv X pins σ H s) (grown : ∀ b o, s.heap.get? b = some o → s1.heap.get? b = some o) (g : s1.gens = s.gens) (o : s1.os = s.os) : Inv X pins σ H s1 :=
  I.call' (ch := []) o (Un.kept grown) (I.hok.kept grown) (g ▸ I.bare) fun _ m => nomatch m
def rSetL (K : PySem.W.Frag) (w : World) : List V → Hp → VK → Prop := fun vs H Q => ∃ (a : Addr) (ns : List Int), vs = [V.ref a] ∧ SqL K H a (ns.map V.int) ∧ ns.length + 1 < scanBound ∧
  ∀ p c, c ≤ ns.length → H p = none → Q (.ref p) (upd H p (SetO w p (fun j => decide (j ∈ ns)) c))
theorem cr_setL (calm : X.calm = true) : CallR X (.type "set") (rSetL X.K X.w) := by
  rintro pins s σ H _ us Q I one ⟨a, ns, rfl, here, few, q⟩
  obtain ⟨v, rfl, rfl⟩ : ∃ v, us = [v] ∧ v = .ref a := by
    cases one with | cons e1 t1 => cases t1; exact ⟨_, rfl, e1⟩
  have ⟨its, r, at_a, _⟩ := I.list here
  refine set_of_list (I.ok.hd calm) at_a.isList r.ints few fun s' S c grown g d o size hc made => ?_
  obtain ⟨h1, g1, d1, t1, o1⟩ := s'
  obtain rfl : g1 = s.gens := g
  obtain rfl : d1 = s.drawn := d
  obtain rfl : o1 = s.os := o
  exact ⟨.ref S, _, I.laid (t' := t1) grown size (setO_new made), rfl, q S c hc (I.hok.fresh size)⟩
/-- sorted(v) of what a walk gathers, ints -/
theorem sorted_walked {pins : List (Addr × Obj)} {σ : L2.St} {H : Hp} {s : Shared} {Q : VK} {v : Value} {W : List Int → Prop}
    (walk : ∀ R : List Value → Shared → Prop, (∀ us ns s1, Vals (ns.map V.int) us → W ns → ns.length ≤ sizeLine → Inv X pins σ H s1 → R us s1) → wpAny (model X.prog X.w) X.A.in1 (collect v) R X.xe s)
    (q : ∀ (ns ns' : List Int) (l : Addr), W ns → ns'.Perm ns → ns'.Pairwise (· ≤ ·) → H l = none → Q (.ref l) (upd H l (.lst (ns'.map V.int)))) : wpAny (model X.prog X.w) X.A (call (.builtin "sorted") [v]) (EP X pins σ Q) X.xe s := by
  refine Calls.call_function_entry kind_sorted plain_sorted entry_sorted (args_sorted1 v) (wpAny_bind (m := checkCount "sorted" 1 1 _) (wpAny_pure (wpAny_bind (walk _ fun us ns s1 told W few I => ?_))))
  have n1 : (ns.map V.int).length ≤ sizeLine := by rw [List.length_map]; exact few
  have n2 : us.length ≤ sizeLine := told.length ▸ n1
  refine wpAny_bind (wpAny_newList (wpAny_bind (wpAny_holding ?_)) n2)
  generalize hl : s1.heap.objs.size = l
  have at_l : (s1.heap.push (seqObj "list" us.toArray 0)).get? l = some (seqObj "list" us.toArray 0) := hl ▸ Heap.get?_push_size _ rfl
  have free : H l = none := hl ▸ I.hok.fresh (Nat.le_refl _)
  have J : Inv X pins σ (upd H l (.lst (ns.map V.int))) { s1 with heap := s1.heap.push (seqObj "list" us.toArray 0) } :=
    I.laid (t' := s1.toks) (fun _ _ => Heap.get?_push_of_some _) (Nat.le_of_eq hl) ⟨n1, _, 0, told, at_l⟩
  refine wpAny_call_entry slot_list_sort ⟨_, at_l, rfl⟩ entry_list_sort (SrtO.list_sort_ord SrtO.swo_int at_l n2 (fun two => SrtO.ints_sortable told.ints two) fun out up same => ⟨_, rfl, wpAny_pure ⟨_, rfl, ?_⟩⟩) (args_list_sort _)
  obtain ⟨P0, hP0, e0, rfl⟩ := partners_of told
  obtain ⟨P, p1, rfl⟩ := go_along same.perm
  obtain ⟨ms, pm, em⟩ := go_along (f := V.int) (P := ns) (ys := P.map Prod.fst) (e0 ▸ p1.map _)
  have hP : Partners P := fun p m => hP0 p (p1.mem_iff.mp m)
  have back := ints_back (Vals.ints (em ▸ hP.vals))
  have rise : ms.Pairwise (· ≤ ·) := by
    rw [← back, List.pairwise_map]
    exact up.imp fun h => Int.not_lt.mp (of_decide_eq_false h)
  obtain ⟨e, he⟩ := sortedHeap_at (out := (P.map Prod.snd).toArray) at_l
  have done := J.write (o := .lst (ms.map V.int)) (t' := s1.toks) (h' := sortedHeap (s1.heap.push (seqObj "list" (P0.map Prod.snd).toArray 0)) l (P0.map Prod.snd) (P.map Prod.snd).toArray)
    (by rw [upd_same]; trivial) (.inl rfl) (fun c u away there => (sortedHeap_old away (Heap.lt_size there)).trans there) ⟨_, he⟩
    ⟨by rw [List.length_map, pm.length_eq]; exact few, _, e, em ▸ hP.vals, he⟩
  rw [upd_upd] at done
  exact ⟨.ref l, _, done, rfl, q ns ms l W pm rise free⟩
def rSortedSetN (w : World) : List V → Hp → VK → Prop := fun vs H Q => ∃ (a : Addr) (S : Int → Bool) (n : Nat), vs = [V.ref a] ∧ H a = some (SetO w a S n) ∧
  ∀ (ns : List Int) (p : Addr), ns.Pairwise (· < ·) → (∀ k : Int, k ∈ ns ↔ S k = true) → ns.length = n → H p = none → Q (.ref p) (upd H p (.lst (ns.map V.int)))
theorem cr_sortedSetN (calm : X.calm = true) : CallR X (.builtin "sorted") (rSortedSetN X.w) := by
  rintro pins s σ H _ us Q I one ⟨a, S, n, rfl, here, q⟩
  obtain ⟨v, rfl, rfl⟩ : ∃ v, us = [v] ∧ v = .ref a := by
    cases one with | cons e1 t1 => cases t1; exact ⟨_, rfl, e1⟩
  have ⟨o, es, ep, t, at_a, ex, data, good, nd, mem, few, fits, size, ris, led⟩ := setO_get I here
  have values : ∀ {l : List (Int × Value)}, (∀ e ∈ l, GoodE e) → Vals ((l.map keyOf).map V.int) (l.map Prod.snd) := fun {l} => by
    induction l with
    | nil => exact fun _ => .nil
    | cons e l ih =>
      intro h
      have ⟨k, tk, e2, _⟩ := h e (.head _)
      have e3 : keyOf e = k := by unfold keyOf; rw [e2]
      exact .cons (show ∃ t, e.2 = Value.int (keyOf e) t from ⟨tk, by rw [e3]; exact e2⟩) (ih fun e m => h e (.tail _ m))
  refine sorted_walked (H := H) (W := fun ns => ns.Perm (es.toList.map keyOf)) (fun R go => ?_) fun ns ns' l pn p up free => ?_
  · refine collect_set (I.ok.hd calm) ⟨o, at_a, ex.1, data⟩ fits few ris led fun s1 out grown _ g os perm => ?_
    have told := values good
    obtain ⟨P0, hP0, e0, e1⟩ := partners_of told
    obtain ⟨P, p1, rfl⟩ := go_along (e1 ▸ perm)
    obtain ⟨ms, pm, em⟩ := go_along (f := V.int) (P := es.toList.map keyOf) (ys := P.map Prod.fst) (e0 ▸ p1.map _)
    have hP : Partners P := fun p m => hP0 p (p1.mem_iff.mp m)
    refine go _ ms s1 (em ▸ hP.vals) pm ?_ (inv_grown I grown g os)
    rw [pm.length_eq, List.length_map, Array.length_toList]
    exact Nat.le_trans (Nat.le_of_lt few) (by decide)
  · have pall := p.trans pn
    have nd' : ns'.Nodup := pall.nodup_iff.mpr nd
    refine q ns' l ((List.pairwise_and_iff.mpr ⟨up, nd'⟩).imp fun h => by omega) (fun k => by rw [pall.mem_iff, ← mem k]) ?_ free
    rw [pall.length_eq, List.length_map, Array.length_toList]
    exact size
end
end El
namespace El
/-! ### more patience and more of a crowd: no first rooms hold fewer -/
/-- in no first rooms more -/
def Les (L M : List Int) : Prop := ∀ j : Nat, (L.take j).sum ≤ (M.take j).sum
theorem Les.refl (L : List Int) : Les L L := fun _ => Int.le_refl _
theorem Les.trans {A B C : List Int} (h : Les A B) (k : Les B C) : Les A C := fun j => Int.le_trans (h j) (k j)
/-- where one sits down -/
theorem sit_at (p : Int) : ∀ L : List Int, ∃ i : Nat, i ≤ L.length ∧ (∀ k x, k < i → L[k]? = some x → p < x) ∧ (∀ x, L[i]? = some x → x ≤ p) ∧ ∀ j : Nat, ((sit p L).take j).sum = (L.take j).sum + if i < j then 1 else 0
  | [] => ⟨0, Nat.le_refl _, fun k x h => absurd h (Nat.not_lt_zero _), fun x e => by simp at e, fun j => by
    cases j with
    | zero => rfl
    | succ j => simp [sit]⟩
  | s :: L => by
    by_cases h : s ≤ p
    · refine ⟨0, Nat.zero_le _, fun k x h => absurd h (Nat.not_lt_zero _), fun x e => ?_, fun j => ?_⟩
      · obtain rfl := Option.some.inj e
        exact h
      · have e : sit p (s :: L) = (s + 1) :: L := if_pos h
        rw [e]
        cases j with
        | zero => rfl
        | succ j =>
          rw [List.take_succ_cons, List.take_succ_cons, List.sum_cons, List.sum_cons, if_pos (Nat.succ_pos _)]
          omega
    · obtain ⟨i, hi, h1, h2, h3⟩ := sit_at p L
      refine ⟨i + 1, Nat.succ_le_succ hi, fun k x hk e => ?_, fun x e => h2 x (by simpa using e), fun j => ?_⟩
      · cases k with
        | zero =>
          obtain rfl := Option.some.inj e
          omega
        | succ k => exact h1 k x (by omega) (by simpa using e)
      · have e : sit p (s :: L) = s :: sit p L := if_neg h
        rw [e]
        cases j with
        | zero => rfl
        | succ j =>
          rw [List.take_succ_cons, List.take_succ_cons, List.sum_cons, List.sum_cons, h3 j]
          by_cases hj : i < j
          · rw [if_pos hj, if_pos (by omega)]
            omega
          · rw [if_neg hj, if_neg (by omega)]
            omega
theorem sum_most {p : Int} (p0 : 0 ≤ p) : ∀ (X : List Int) (n : Nat), (∀ x ∈ X, x ≤ p) → (X.take n).sum ≤ n * p
  | X, 0, _ => by
    rw [List.take_zero]
    show (0 : Int) ≤ ((0 : Nat) : Int) * p
    simp
  | [], n + 1, _ => by
    rw [List.take_nil]
    exact Int.mul_nonneg (by omega) p0
  | x :: X, n + 1, h => by
    have h1 := h x List.mem_cons_self
    have h2 := sum_most p0 X n fun y m => h y (List.mem_cons_of_mem _ m)
    have e : ((n + 1 : Nat) : Int) * p = (n : Int) * p + p := by
      rw [show ((n + 1 : Nat) : Int) = (n : Int) + 1 from rfl, Int.add_mul, Int.one_mul]
    rw [List.take_succ_cons, List.sum_cons, e]
    omega
theorem sum_least {q : Int} : ∀ (X : List Int) (n : Nat), n ≤ X.length → (∀ k x, k < n → X[k]? = some x → q ≤ x) → n * q ≤ (X.take n).sum
  | X, 0, _, _ => by
    rw [List.take_zero]
    show ((0 : Nat) : Int) * q ≤ 0
    simp
  | [], n + 1, h, _ => absurd h (by simp)
  | x :: X, n + 1, hl, h => by
    have h1 := h 0 x (by omega) rfl
    have h2 := sum_least X n (by simpa using hl) fun k y hk e => h (k + 1) y (by omega) (by simpa using e)
    have e : ((n + 1 : Nat) : Int) * q = (n : Int) * q + q := by
      rw [show ((n + 1 : Nat) : Int) = (n : Int) + 1 from rfl, Int.add_mul, Int.one_mul]
    rw [List.take_succ_cons, List.sum_cons, e]
    omega
theorem take_two (L : List Int) {i j : Nat} (h : i ≤ j) : (L.take j).sum = (L.take i).sum + ((L.drop i).take (j - i)).sum := by
  rw [← List.sum_append, ← List.take_add, show i + (j - i) = j by omega]
theorem les_sit {p p' : Int} (p0 : 0 ≤ p) (hp : p ≤ p') {L M : List Int} (dn : Dn L) (h : Les L M) : Les (sit p L) (sit p' M) := fun j => by
  obtain ⟨i, hi, _, i2, i3⟩ := sit_at p L
  obtain ⟨m, hm, m1, _, m3⟩ := sit_at p' M
  rw [i3 j, m3 j]
  have hj := h j
  by_cases h1 : i < j
  · rw [if_pos h1]
    by_cases h2 : m < j
    · rw [if_pos h2]
      omega
    · rw [if_neg h2]
      have below : ∀ x ∈ L.drop i, x ≤ p := fun x mx => by
        cases e : L.drop i with
        | nil => rw [e] at mx; cases mx
        | cons y Y =>
          have ey : L[i]? = some y := by
            have := congrArg (fun l : List Int => l[0]?) e
            simpa [List.getElem?_drop] using this
          have hy := i2 y ey
          have dd : Dn (y :: Y) := e ▸ dn.sublist (List.drop_sublist _ _)
          rw [e] at mx
          rcases List.mem_cons.mp mx with rfl | mx
          · exact hy
          · have := (List.pairwise_cons.mp dd).1 x mx
            omega
      have a1 := sum_most p0 (L.drop i) (j - i) below
      have a2 := sum_least (q := p + 1) (M.drop i) (j - i) (by rw [List.length_drop]; omega) fun k x hk e => by
        rw [List.getElem?_drop] at e
        have := m1 (i + k) x (by omega) e
        omega
      have a3 := h i
      rw [take_two L (Nat.le_of_lt h1), take_two M (Nat.le_of_lt h1)]
      have e : ((j - i : Nat) : Int) * (p + 1) = ((j - i : Nat) : Int) * p + ((j - i : Nat) : Int) := by rw [Int.mul_add, Int.mul_one]
      rw [e] at a2
      omega
  · rw [if_neg h1]
    split <;> omega
theorem les_up (p : Int) (L : List Int) : Les L (sit p L) := fun j => by
  obtain ⟨i, _, _, _, h⟩ := sit_at p L
  rw [h j]
  split <;> omega
theorem les_sitN {p p' : Int} (p0 : 0 ≤ p) (hp : p ≤ p') : ∀ {n m : Nat} {L M : List Int}, n ≤ m → Dn L → Les L M → Les (sitN p n L) (sitN p' m M)
  | 0, 0, _, _, _, _, h => h
  | 0, m + 1, L, M, _, dn, h => les_sitN p0 hp (n := 0) (m := m) (L := L) (M := sit p' M) (Nat.zero_le _) dn (h.trans (les_up p' M))
  | n + 1, 0, _, _, hn, _, _ => absurd hn (Nat.not_succ_le_zero _)
  | n + 1, m + 1, L, M, hn, dn, h => les_sitN p0 hp (n := n) (m := m) (L := sit p L) (M := sit p' M) (Nat.le_of_succ_le_succ hn) (sit_dn p0 dn) (les_sit p0 hp dn h)
/-- the crowds behind change nothing of it -/
theorem les_lots : ∀ (cs : List (Int × Int)) {L M : List Int}, (∀ c ∈ cs, 0 ≤ c.2) → Dn L → Les L M → Les (cs.foldl (fun L c => sitN c.2 c.1.toNat L) L) (cs.foldl (fun L c => sitN c.2 c.1.toNat L) M)
  | [], _, _, _, _, h => h
  | c :: cs, L, M, hc, dn, h => les_lots cs (L := sitN c.2 c.1.toNat L) (M := sitN c.2 c.1.toNat M) (fun x m => hc x (List.mem_cons_of_mem _ m)) (sitN_dn (hc c List.mem_cons_self) dn) (les_sitN (hc c List.mem_cons_self) (Int.le_refl _) (Nat.le_refl _) dn h)
theorem seat_dn : ∀ (cs : List (Int × Int)) {L : List Int}, (∀ c ∈ cs, 0 ≤ c.2) → Dn L → Dn (cs.foldl (fun L c => sitN c.2 c.1.toNat L) L)
  | [], _, _, h => h
  | c :: cs, L, hc, dn => seat_dn cs (fun x m => hc x (List.mem_cons_of_mem _ m)) (sitN_dn (hc c List.mem_cons_self) dn)
theorem seat_cut (A B : List (Int × Int)) : seat (A ++ B) = B.foldl (fun L c => sitN c.2 c.1.toNat L) (seat A) := List.foldl_append
theorem seat_mid (A B : List (Int × Int)) (c : Int × Int) : seat (A ++ [c] ++ B) = B.foldl (fun L c => sitN c.2 c.1.toNat L) (sitN c.2 c.1.toNat (seat A)) := by
  rw [seat_cut, seat_cut]
  rfl
/-- a crowd with more patience -/
theorem les_better {A B : List (Int × Int)} {c b b' : Int} (hA : ∀ c ∈ A, 0 ≤ c.2) (hB : ∀ c ∈ B, 0 ≤ c.2) (b0 : 0 ≤ b) (hb : b ≤ b') : Les (seat (A ++ [(c, b)] ++ B)) (seat (A ++ [(c, b')] ++ B)) := by
  rw [seat_mid, seat_mid]
  have dA : Dn (seat A) := seat_dn A hA .nil
  exact les_lots B hB (sitN_dn b0 dA) (les_sitN b0 hb (Nat.le_refl _) dA (Les.refl _))
/-- fewer of a crowd -/
theorem les_fewer {A B : List (Int × Int)} {c f b : Int} (hA : ∀ c ∈ A, 0 ≤ c.2) (hB : ∀ c ∈ B, 0 ≤ c.2) (b0 : 0 ≤ b) (hf : f ≤ c) : Les (seat (A ++ [(f, b)] ++ B)) (seat (A ++ [(c, b)] ++ B)) := by
  rw [seat_mid, seat_mid]
  have dA : Dn (seat A) := seat_dn A hA .nil
  exact les_lots B hB (sitN_dn b0 dA) (les_sitN b0 (Int.le_refl _) (by show f.toNat ≤ c.toNat; omega) dA (Les.refl _))
/-- a crowd left out -/
theorem les_without {A B : List (Int × Int)} {c b : Int} (hA : ∀ c ∈ A, 0 ≤ c.2) (hB : ∀ c ∈ B, 0 ≤ c.2) (b0 : 0 ≤ b) : Les (seat (A ++ [] ++ B)) (seat (A ++ [(c, b)] ++ B)) := by
  rw [List.append_nil, seat_cut, seat_mid]
  have dA : Dn (seat A) := seat_dn A hA .nil
  exact les_lots B hB dA (les_sitN (n := 0) b0 (Int.le_refl _) (Nat.zero_le _) dA (Les.refl _))
theorem Les.inF {L M : List Int} (h : Les L M) (j : Int) : El.inF L j ≤ El.inF M j := h j.toNat
/-! ### sums -/
theorem sit_sum (p : Int) (L : List Int) : (sit p L).sum = L.sum + 1 := by
  induction L with
  | nil => rfl
  | cons s L ih =>
    show (if s ≤ p then (s + 1) :: L else s :: sit p L).sum = _
    split
    · rw [List.sum_cons, List.sum_cons]
      omega
    · rw [List.sum_cons, List.sum_cons, ih]
      omega
theorem sitN_sum (p : Int) : ∀ (n : Nat) (L : List Int), (sitN p n L).sum = L.sum + n
  | 0, L => by
    show L.sum = L.sum + ((0 : Nat) : Int)
    omega
  | n + 1, L => by
    show (sitN p n (sit p L)).sum = _
    rw [sitN_sum p n, sit_sum]
    omega
theorem seat_sum : ∀ (cs : List (Int × Int)) (L : List Int), (∀ c ∈ cs, 0 ≤ c.1) → (cs.foldl (fun L c => sitN c.2 c.1.toNat L) L).sum = L.sum + (cs.map (·.1)).sum
  | [], L, _ => by simp
  | c :: cs, L, h => by
    have h1 := h c List.mem_cons_self
    rw [List.foldl_cons, seat_sum cs _ fun x m => h x (List.mem_cons_of_mem _ m), sitN_sum, List.map_cons, List.sum_cons]
    omega
theorem ex_sum : ∀ {R : List (Int × Int)}, (∀ r ∈ R, 0 ≤ r.2) → (ex R).sum = (R.map fun r => r.1 * r.2).sum
  | [], _ => rfl
  | r :: R, h => by
    have h1 := h r List.mem_cons_self
    rw [ex_cons, List.sum_append, sum_rep, ex_sum fun x m => h x (List.mem_cons_of_mem _ m), List.map_cons, List.sum_cons, show ((r.2.toNat : Nat) : Int) = r.2 by omega, Int.mul_comm]
theorem ex_lenS : ∀ {R : List (Int × Int)}, (∀ r ∈ R, 0 ≤ r.2) → ((ex R).length : Int) = (R.map (·.2)).sum
  | [], _ => rfl
  | r :: R, h => by
    have h1 := h r List.mem_cons_self
    rw [ex_cons, List.length_append, List.length_replicate, List.map_cons, List.sum_cons, ← ex_lenS fun x m => h x (List.mem_cons_of_mem _ m)]
    omega
theorem len_le_sum : ∀ {L : List Int}, (∀ s ∈ L, 0 < s) → (L.length : Int) ≤ L.sum
  | [], _ => Int.le_refl _
  | s :: L, h => by
    have h1 := h s List.mem_cons_self
    have h2 := len_le_sum fun x m => h x (List.mem_cons_of_mem _ m)
    rw [List.length_cons, List.sum_cons]
    omega
end El
namespace El
open PySem PySem.Spec PyProof.Rows L2
theorem same_up : ∀ {a b : List Int}, a.Pairwise (· < ·) → b.Pairwise (· < ·) → (∀ x, x ∈ a ↔ x ∈ b) → a = b
  | [], [], _, _, _ => rfl
  | [], y :: b, _, _, h => absurd ((h y).mpr List.mem_cons_self) List.not_mem_nil
  | x :: a, [], _, _, h => absurd ((h x).mp List.mem_cons_self) List.not_mem_nil
  | x :: a, y :: b, ha, hb, h => by
    obtain ⟨a1, a2⟩ := List.pairwise_cons.mp ha
    obtain ⟨b1, b2⟩ := List.pairwise_cons.mp hb
    have e : x = y := by
      rcases List.mem_cons.mp ((h x).mp List.mem_cons_self) with e | m
      · exact e
      · rcases List.mem_cons.mp ((h y).mpr List.mem_cons_self) with e | m2
        · exact e.symm
        · have := b1 x m
          have := a1 y m2
          omega
    subst e
    rw [same_up a2 b2 fun z => ⟨fun m => ?_, fun m => ?_⟩]
    · rcases List.mem_cons.mp ((h z).mp (List.mem_cons_of_mem _ m)) with e | m2
      · have := a1 z m
        omega
      · exact m2
    · rcases List.mem_cons.mp ((h z).mpr (List.mem_cons_of_mem _ m)) with e | m2
      · have := b1 z m
        omega
      · exact m2
/-- sizes that fall, set down from the set of them -/
theorem down_same {ns ms : List Int} (hm : ms.Pairwise (· < ·)) (hs : ∀ k : Int, k ∈ ms ↔ decide (k ∈ ns) = true) (h : ns.Pairwise (· > ·)) : ms.reverse = ns := by
  have h2 : ns.reverse.Pairwise (· < ·) := by
    rw [List.pairwise_reverse]
    exact h
  have e := same_up hm h2 fun k => by rw [hs k, decide_eq_true_iff, List.mem_reverse]
  rw [e, List.reverse_reverse]
theorem mem_most : ∀ {l : List Int} {x : Int}, (∀ y ∈ l, 0 ≤ y) → x ∈ l → x ≤ l.sum
  | [], _, _, m => absurd m List.not_mem_nil
  | a :: l, x, h, m => by
    have h0 := h a List.mem_cons_self
    have hs : 0 ≤ l.sum := by
      have : ∀ l : List Int, (∀ y ∈ l, 0 ≤ y) → 0 ≤ l.sum := fun l => by
        induction l with
        | nil => exact fun _ => Int.le_refl _
        | cons b l ih =>
          intro k
          have := ih fun y m => k y (List.mem_cons_of_mem _ m)
          have := k b List.mem_cons_self
          rw [List.sum_cons]
          omega
      exact this l fun y m => h y (List.mem_cons_of_mem _ m)
    rw [List.sum_cons]
    rcases List.mem_cons.mp m with rfl | m
    · omega
    · have := mem_most (fun y m => h y (List.mem_cons_of_mem _ m)) m
      omega
section
variable {P : Program} {w : World} {K : PySem.W.Frag} {mg : Str → Option Value} {base : Heap}
abbrev s__law_sound : Stmt := topS 20
abbrev N__law_sound : List Str := ["lot", "told", "some", "folk", "size", "many", "count", "bears"]
abbrev P__law_sound : List Str := ["lot"]
theorem sc__law_sound : FnScope N__law_sound P__law_sound (defScope s__law_sound) := ⟨rfl, rfl, rfl, by decide +kernel, rfl, by decide +kernel, by decide +kernel⟩
def sp__law_sound : Sp := fun vs H Q _ => ∃ (B : Addr → Prop) (a : Addr) (ts : List Addr) (cs : List (Int × Int)), vs = [.ref a] ∧ GsAt H B a ts cs ∧ Crw cs ∧ (∀ c ∈ cs, c.1 < 2 ^ 150 ∧ c.2 < 2 ^ 150) ∧ cs.length ≤ 100 ∧ ∀ H', Same H H' → Q (.bl true) H'
theorem ok__law_sound (A : At K mg "_law_sound" P__law_sound s__law_sound) (B : Bi mg) (D_crowd_sizes : Df P w K mg base 4 "crowd_sizes" P_crowd_sizes s_crowd_sizes sp_crowd_sizes) : Df P w K mg base 5 "_law_sound" P__law_sound s__law_sound sp__law_sound := by
  refine A.df fun f fd F => F.ok sc__law_sound (fun vs H Q E h => ?_) (fun cdv AA outer s H vs Q E hr h => ?_)
  · obtain ⟨_, _, _, _, rfl, _⟩ := h
    rfl
  · obtain ⟨BB, a, ts, cs, rfl, hG, hC, hc, hl, q⟩ := h
    have nd := sc__law_sound.nd
    refine ⟨_, (pss_cons (ps_set (i := 1) nd rfl (.inl rfl) (pe_df D_crowd_sizes (hr.mono (by decide)) (by rfl) (pa_cons (pv 0) pa_nil)))
    (pss_cons (ps_setLc (i := 2) (own := [("size", 4), ("many", 5)]) (tt := tYes) rfl nd rfl rfl (sw_true rfl rfl rfl (by decide +kernel)) (pi_list (pv 1)) (blkOk_by (N := N__law_sound) (sc := defScope s__law_sound) (by decide +kernel)) (fun _ _ _ _ _ => (pgTupK K 2 (by rfl) (pgs_cons (pg_name (i := 4) nd rfl (.inl rfl)) (pgs_cons (pg_name (i := 5) nd rfl (.inl rfl)) pgs_nil)))) (fun _ _ _ _ _ => pts_nil) (fun _ _ _ _ _ => (pv 4)))
    (pss_cons (ps_if (PW.pt (pw_or (pt_cmpR (op_neD hr.units) (pv 2) (pe_revL (pe_callB (cr_sortedSetN rfl) (by rfl) B.sorted (by decide +kernel) (pa_cons (pe_callTy (cr_setL rfl) (by rfl) B.set_ (by decide +kernel) (pa_cons (pv 2) pa_nil)) pa_nil))) (nomark _)) (pw_or1 (pt_cmpR (op_neD hr.units) (pe_lc (own := [("size", 4), ("many", 5)]) rfl nd (pi_list (pv 1)) (blkOk_by (N := N__law_sound) (sc := defScope s__law_sound) (by decide +kernel)) (fun _ _ _ _ _ => (pgTupK K 2 (by rfl) (pgs_cons (pg_name (i := 4) nd rfl (.inl rfl)) (pgs_cons (pg_name (i := 5) nd rfl (.inl rfl)) pgs_nil)))) (fun _ _ _ _ _ => (pts_one (PW.pt (pw_or (pt_cmpR op_lt (pv 4) pe_int (nomark _)) (pw_or1 (pt_cmpR op_lt (pv 5) pe_int (nomark _))))))) (fun _ _ _ _ _ => pe_int)) (pe_lst pa_nil) (nomark _))))) (pss_one (ps_ret pe_bl)) pss_nil)
    (pss_cons (ps_set (i := 3) nd rfl (.inl rfl) (pe_callB (cr_sum rfl) (by rfl) B.sum (by decide +kernel) (pa_cons (pe_lc (own := [("count", 6), ("bears", 7)]) (tt := tYes) rfl nd (pi_list (pv 0)) (blkOk_by (N := N__law_sound) (sc := defScope s__law_sound) (by decide +kernel)) (fun _ _ _ _ _ => (pgTupK K 2 (by rfl) (pgs_cons (pg_name (i := 6) nd rfl (.inl rfl)) (pgs_cons (pg_name (i := 7) nd rfl (.inl rfl)) pgs_nil)))) (fun _ _ _ _ _ => pts_nil) (fun _ _ _ _ _ => (pv 6))) pa_nil)))
    (pss_one (ps_ret (pe_and (pe_cmpR op_eq (pe_callB (cr_sum rfl) (by rfl) B.sum (by decide +kernel) (pa_cons (pe_lc (own := [("size", 4), ("many", 5)]) (tt := tYes) rfl nd (pi_list (pv 1)) (blkOk_by (N := N__law_sound) (sc := defScope s__law_sound) (by decide +kernel)) (fun _ _ _ _ _ => (pgTupK K 2 (by rfl) (pgs_cons (pg_name (i := 4) nd rfl (.inl rfl)) (pgs_cons (pg_name (i := 5) nd rfl (.inl rfl)) pgs_nil)))) (fun _ _ _ _ _ => pts_nil) (fun _ _ _ _ _ => (pe_op op_mulW (pv 4) (pv 5)))) pa_nil)) (pv 3) (nomark _)) (pe_one (pe_cmpR op_le (pe_callB (cr_sum rfl) (by rfl) B.sum (by decide +kernel) (pa_cons (pe_lc (own := [("size", 4), ("many", 5)]) (tt := tYes) rfl nd (pi_list (pv 1)) (blkOk_by (N := N__law_sound) (sc := defScope s__law_sound) (by decide +kernel)) (fun _ _ _ _ _ => (pgTupK K 2 (by rfl) (pgs_cons (pg_name (i := 4) nd rfl (.inl rfl)) (pgs_cons (pg_name (i := 5) nd rfl (.inl rfl)) pgs_nil)))) (fun _ _ _ _ _ => pts_nil) (fun _ _ _ _ _ => (pv 5))) pa_nil)) (pv 3) (nomark _)))))))))), ?_⟩
    refine ⟨.ref a, rfl, BB, a, ts, cs, rfl, hG, hC, hc, hl, fun H1 o us R s1 G1 R1 lR => ?_⟩
    dsimp only [gName]
    have hRl : R.length ≤ 1000 := by omega
    have hfall : (R.map (·.1)).Pairwise (· > ·) := by
      rw [List.pairwise_map]
      exact R1.d.imp fun h => h
    have hzl : ∀ r ∈ R, r.1 ≤ 2 ^ 150 + 1 := fun r mR => by
      have hzc := R1.p r mR
      refine lot_le (M := 2 ^ 150 + 1) (by decide) (cs := cs) (L := []) (fun x m => by have := (hc x m).2; omega) (fun y m => (List.not_mem_nil m).elim) r.1 ?_
      show r.1 ∈ seat cs
      rw [R1.e]
      exact List.mem_flatMap.mpr ⟨_, mR, List.mem_replicate.mpr ⟨by omega, rfl⟩⟩
    -- some
    refine ⟨.ref o, rfl, o, rfl, ⟨_, G1.seq⟩, fun D nD => ?_⟩
    refine lc_prs (fun c => c.1) G1 nD hRl (fun c H' _ _ Q h => ⟨_, rfl, h⟩) (fun _ => rfl) (fun H2 s2 e2 => ?_)
    dsimp only [gName]
    have G2 := G1.same s2
    have hl3 : R.length + 1 < scanBound := by unfold scanBound; omega
    have spos : ∀ x ∈ seat cs, 0 < x := fun x m => by
      rw [R1.e] at m
      obtain ⟨r, mr, rfl⟩ := ex_mem m
      exact (R1.p r mr).1
    have htot : (seat cs).sum = (cs.map (·.1)).sum := by
      have := seat_sum cs [] fun c m => by have := (hC c m).1; omega
      unfold seat
      simpa using this
    have hsum : (R.map fun r => r.1 * r.2).sum = (cs.map (·.1)).sum := by
      rw [← ex_sum fun r m => Int.le_of_lt (R1.p r m).2, ← R1.e]
      exact htot
    have hlen : (R.map (·.2)).sum ≤ (cs.map (·.1)).sum := by
      rw [← ex_lenS fun r m => Int.le_of_lt (R1.p r m).2, ← R1.e]
      have h1 := len_le_sum spos
      omega
    refine seq_to (fun σ Hx => σ = [some (.ref a), some (.ref o), some (.ref D), none, none, none, none, none] ∧ Same H2 Hx) (fun Y hY => ?_) (fun σ H3 hE => ?_)
    · refine ⟨.ref D, rfl, .ref D, rfl, D, R.map (·.1), rfl, SqL.of e2, by rw [List.length_map]; exact hl3, fun p c _ np => ?_⟩
      refine ⟨p, _, c, rfl, upd_same, fun ms p2 hms hmem _ np2 => ?_⟩
      refine ⟨p2, ms.map V.int, rfl, SqL.of upd_same, fun p3 np3 => ?_⟩
      have k7 : Same H2 (upd H2 p (SetO w p (fun j => decide (j ∈ R.map (·.1))) c)) := same_new np
      have k8 := same_new (o := .lst (ms.map V.int)) np2
      have k9 := same_new (o := .lst (ms.map V.int).reverse) np3
      have k79 := (k7.trans k8).trans k9
      refine ⟨dInts (R.map (·.1)), dInts ms.reverse, Dp.ints (k79 _ _ e2), Dp.ints (by rw [upd_same, List.map_reverse]), (Oks.ints _).shaped, (Oks.ints _).shaped, ?_⟩
      rw [eqv_ints, down_same hms hmem hfall, decide_eq_true rfl]
      dsimp only [cxOf] at k79 ⊢
      revert k79
      generalize upd (upd (upd H2 p (SetO w p (fun j => decide (j ∈ R.map (·.1))) c)) p2 (.lst (ms.map V.int))) p3 (.lst (ms.map V.int).reverse) = H4
      intro k79
      have G4 := G2.same k79
      refine ⟨_, rfl, ifNo rfl ?_⟩
      refine ⟨.ref o, rfl, o, rfl, ⟨_, G4.seq⟩, fun D3 nD3 => ?_⟩
      refine lc_it (walk_list (xs := us.map V.ref)) (fun k Hx => Same H4 Hx ∧ Hx D3 = some (.lst [])) ⟨same_new nD3, upd_same⟩ (fun k Hx _ hW => (G4.same hW.1).seq) (fun k x Hq Hx hk hW hY2 => ?_) (fun Hx hW => ?_)
      · obtain ⟨sx, eD⟩ := hW
        obtain ⟨rfl, hx⟩ := hY2
        obtain ⟨t, z, rfl, ez, et⟩ := (G4.same sx).get hx
        have hz := R1.p z (List.mem_of_getElem? ez)
        refine ⟨t, _, rfl, SqT.of et, rfl, .int z.1, _, rfl, .int z.2, _, rfl, rfl, ?_⟩
        refine ⟨rfl, .int z.1, rfl, _, _, rfl, rfl, _, rfl, ifNo (decide_eq_false (by omega)) ⟨.int z.2, rfl, _, _, rfl, rfl, _, rfl, ifNo (decide_eq_false (by omega)) ⟨sx, eD⟩⟩⟩
      · obtain ⟨sx, eD⟩ := hW
        refine ⟨Nat.zero_le _, fun em nem => ?_⟩
        have se := same_new (o := .lst []) nem
        refine ⟨dInts [], dInts [], Dp.ints (ns := []) (se _ _ eD), Dp.ints (ns := []) upd_same, (Oks.ints _).shaped, (Oks.ints _).shaped, _, rfl, ifNo rfl ?_⟩
        exact hY _ _ ⟨rfl, k79.trans (sx.trans se)⟩
    obtain ⟨rfl, s3⟩ := hE
    -- folk
    have sH := s1.trans (s2.trans s3)
    have GL := hG.same sH
    have G3 := G2.same s3
    have hl1 : cs.length ≤ 1000 := by omega
    refine ⟨.ref a, rfl, a, rfl, ⟨_, GL.seq⟩, fun D4 nD4 => ?_⟩
    refine lc_prs (fun c => c.1) GL nD4 hl1 (fun c H' _ _ Q h => ⟨_, rfl, h⟩) (fun _ => rfl) (fun H4 s4 e4 => ⟨D4, _, rfl, SqL.of e4, ?_⟩)
    dsimp only [gName]
    have G4 := G3.same s4
    refine ⟨.ref o, rfl, o, rfl, ⟨_, G4.seq⟩, fun D5 nD5 => ?_⟩
    refine lc_prs (fun c => c.1 * c.2) G4 nD5 hRl (fun c H' mc _ Q h => ?_) (fun _ => rfl) (fun H5 s5 e5 => ⟨D5, _, rfl, SqL.of e5, ?_⟩)
    · have b1 := hzl c mc
      have b2 := mem_most (l := R.map (·.2)) (x := c.2) (fun y m => by
        obtain ⟨r, mr, rfl⟩ := List.mem_map.mp m
        exact Int.le_of_lt (R1.p r mr).2) (List.mem_map.mpr ⟨c, mc, rfl⟩)
      have b3 := sum_most (p := 2 ^ 150) (by decide) (cs.map (·.1)) cs.length fun y m => by
        obtain ⟨r, mr, rfl⟩ := List.mem_map.mp m
        exact Int.le_of_lt (hc r mr).1
      rw [List.take_of_length_le (by rw [List.length_map]; exact Nat.le_refl _)] at b3
      have b4 : (cs.length : Int) * 2 ^ 150 ≤ 100 * 2 ^ 150 := Int.mul_le_mul_of_nonneg_right (by omega) (by decide)
      have b5 : (100 : Int) * 2 ^ 150 < 2 ^ 160 := by decide
      have p1 := R1.p c mc
      have l1 : c.1.natAbs.log2 ≤ 200 := Nat.le_of_lt ((Nat.log2_lt (by omega)).mpr (by omega))
      have l2 : c.2.natAbs.log2 ≤ 200 := Nat.le_of_lt ((Nat.log2_lt (by omega)).mpr (by omega))
      exact ⟨.int c.1, rfl, .int c.2, rfl, c.1, c.2, rfl, rfl, (by show c.1.natAbs.log2 + c.2.natAbs.log2 < 1000000; omega), h⟩
    rw [hsum]
    refine ⟨_, rfl, rfl, _, rfl, ifYes (decide_eq_true rfl) ?_⟩
    have G5 := G4.same s5
    refine ⟨.ref o, rfl, o, rfl, ⟨_, G5.seq⟩, fun D6 nD6 => ?_⟩
    refine lc_prs (fun c => c.2) G5 nD6 hRl (fun c H' mc _ Q h => ⟨_, rfl, h⟩) (fun _ => rfl) (fun H6 s6 e6 => ⟨D6, _, rfl, SqL.of e6, ?_⟩)
    refine ⟨_, rfl, _, _, rfl, rfl, ?_⟩
    show Q (.bl (decide ((R.map (·.2)).sum ≤ (cs.map (·.1)).sum))) H6
    rw [decide_eq_true hlen]
    exact q _ (sH.trans (s4.trans (s5.trans s6)))
end
end El
namespace El
open PySem PySem.Spec PyProof.Rows L2
section
variable {P : Program} {w : World} {K : PySem.W.Frag} {mg : Str → Option Value} {base : Heap}
abbrev s__law_no_fewer : Stmt := topS 21
abbrev N__law_no_fewer : List Str := ["pot", "one", "other", "spots", "spot"]
abbrev P__law_no_fewer : List Str := ["pot", "one", "other"]
theorem sc__law_no_fewer : FnScope N__law_no_fewer P__law_no_fewer (defScope s__law_no_fewer) := ⟨rfl, rfl, rfl, by decide +kernel, rfl, by decide +kernel, by decide +kernel⟩
theorem lots_pos : ∀ (cs : List (Int × Int)) {L : List Int}, (∀ s ∈ L, 0 < s) → ∀ s ∈ cs.foldl (fun L c => sitN c.2 c.1.toNat L) L, 0 < s
  | [], _, h => h
  | c :: cs, L, h => lots_pos cs (L := sitN c.2 c.1.toNat L) (sitN_pos h)
/-- crowds as they are handed in here -/
structure Fed (cs : List (Int × Int)) : Prop where
  c : Crw cs
  b : ∀ c ∈ cs, c.1 < 2 ^ 150 ∧ c.2 < 2 ^ 150
  l : cs.length ≤ 100
theorem Fed.few {cs : List (Int × Int)} (h : Fed cs) : (seat cs).length < 2 ^ 180 := by
  have h1 := len_le_sum (L := seat cs) fun x m => lots_pos cs (L := []) (fun s m => absurd m List.not_mem_nil) x m
  have h2 : (seat cs).sum = (cs.map (·.1)).sum := by
    have := seat_sum cs [] fun c m => by have := (h.c c m).1; omega
    unfold seat
    simpa using this
  have b3 := sum_most (p := 2 ^ 150) (by decide) (cs.map (·.1)) cs.length fun y m => by
    obtain ⟨r, mr, rfl⟩ := List.mem_map.mp m
    exact Int.le_of_lt (h.b r mr).1
  rw [List.take_of_length_le (by rw [List.length_map]; exact Nat.le_refl _)] at b3
  have hl := h.l
  have b4 : (cs.length : Int) * 2 ^ 150 ≤ 100 * 2 ^ 150 := Int.mul_le_mul_of_nonneg_right (by omega) (by decide)
  have b5 : (100 : Int) * 2 ^ 150 < 2 ^ 180 := by decide
  omega
def sp__law_no_fewer : Sp := fun vs H Q _ => ∃ (BB : Addr → Prop) (b a1 a2 : Addr) (n : Nat) (t1 t2 : List Addr) (c1 c2 : List (Int × Int)), vs = [.ref b, .ref a1, .ref a2] ∧ Pot H b n ∧ n ≤ 900000 ∧ (∀ z, BB z → z ≠ b) ∧ GsAt H BB a1 t1 c1 ∧ GsAt H BB a2 t2 c2 ∧ Fed c1 ∧ Fed c2 ∧ Les (seat c1) (seat c2) ∧
  ∀ H', Dr H b (n + 50) H' → Q (.bl true) H'
theorem ok__law_no_fewer (A : At K mg "_law_no_fewer" P__law_no_fewer s__law_no_fewer) (B : Bi mg) (D__law_rooms_at : Df P w K mg base 2 "_law_rooms_at" P__law_rooms_at s__law_rooms_at sp__law_rooms_at) (D_crowd_sizes : Df P w K mg base 4 "crowd_sizes" P_crowd_sizes s_crowd_sizes sp_crowd_sizes)
    (D_crowd_in_first : Df P w K mg base 5 "crowd_in_first" P_crowd_in_first s_crowd_in_first sp_crowd_in_first) : Df P w K mg base 6 "_law_no_fewer" P__law_no_fewer s__law_no_fewer sp__law_no_fewer := by
  refine A.df fun f fd F => F.ok sc__law_no_fewer (fun vs H Q E h => ?_) (fun cdv AA outer s H vs Q E hr h => ?_)
  · obtain ⟨_, _, _, _, _, _, _, _, _, rfl, _⟩ := h
    rfl
  · obtain ⟨BB, b, a1, a2, n, t1, t2, c1, c2, rfl, hT, hn, hB, G1, G2, F1, F2, hles, q⟩ := h
    have nd := sc__law_no_fewer.nd
    refine ⟨_, (pss_cons (ps_set (i := 3) nd rfl (.inl rfl) (pe_op op_cat (pe_op op_cat (pe_lst (pa_cons pe_int pa_nil)) (pe_df D__law_rooms_at (hr.mono (by decide)) (by rfl) (pa_cons (pv 0) (pa_cons (pe_df D_crowd_sizes (hr.mono (by decide)) (by rfl) (pa_cons (pv 1) pa_nil)) pa_nil)))) (pe_df D__law_rooms_at (hr.mono (by decide)) (by rfl) (pa_cons (pv 0) (pa_cons (pe_df D_crowd_sizes (hr.mono (by decide)) (by rfl) (pa_cons (pv 2) pa_nil)) pa_nil)))))
    (pss_one (ps_ret (pe_cmpR (op_eqD hr.units) (pe_lc (own := [("spot", 4)]) rfl nd (pi_list (pv 3)) (blkOk_by (N := N__law_no_fewer) (sc := defScope s__law_no_fewer) (by decide +kernel)) (fun _ _ _ _ _ => (pg_name (i := 4) nd rfl (.inl rfl))) (fun _ _ _ _ _ => (pts_one (pt_cmpR op_lt (pe_df D_crowd_in_first (hr.mono (by decide)) (by rfl) (pa_cons (pv 2) (pa_cons (pv 4) pa_nil))) (pe_df D_crowd_in_first (hr.mono (by decide)) (by rfl) (pa_cons (pv 1) (pa_cons (pv 4) pa_nil))) (nomark _)))) (fun _ _ _ _ _ => (pv 4))) (pe_lst pa_nil) (nomark _))))), ?_⟩
    refine ⟨(by show 1 ≤ sizeLine; decide), fun p np => ?_⟩
    have sp := same_new (o := .lst [.int 1]) np
    refine ⟨.ref b, rfl, .ref a1, rfl, BB, a1, t1, c1, rfl, G1.same sp, F1.c, F1.b, F1.l, fun H2 o us R s2 GR RR lR => ?_⟩
    have pR : ∀ r ∈ R, 0 < r.2 := fun r m => (RR.p r m).2
    have f1 := F1.l
    have f2 := F2.l
    have D2 := ((Dr.start hT).same sp).same s2
    refine ⟨_, b, o, n, us, R, rfl, D2.t, by omega, GR, fun z e => ((Dr.start hT).same sp).off e, pR, by omega, by rw [← RR.e]; exact F1.few, fun H3 q1 xs D3 nq1 eq1 lx hx _ => ?_⟩
    have D13 := D2.draw D3.k D3.t
    have pb : p ≠ b := hT.off np
    have ep := D3.k _ _ pb (s2 _ _ (upd_same (H := H) (a := p) (o := .lst [.int 1])))
    refine ⟨p, q1, _, _, rfl, rfl, ep, eq1, ?_, fun m nm => ?_⟩
    · rw [List.length_map, lx]
      show 1 + 6 ≤ sizeLine
      decide
    have sm := same_new (o := .lst ([V.int 1] ++ xs.map V.int)) nm
    have em := upd_same (H := H3) (a := m) (o := .lst ([V.int 1] ++ xs.map V.int))
    revert sm em
    generalize upd H3 m (.lst ([V.int 1] ++ xs.map V.int)) = H4
    intro sm em
    have D4 := D13.same sm
    have mb : m ≠ b := D13.off nm
    -- the other one's
    refine ⟨.ref b, rfl, .ref a2, rfl, BB, a2, t2, c2, rfl, G2.keep (D4.k.weak hB), F2.c, F2.b, F2.l, fun H5 o2 us2 S s5 GS RS lS => ?_⟩
    have pS : ∀ r ∈ S, 0 < r.2 := fun r m => (RS.p r m).2
    have D5 := D4.same s5
    refine ⟨_, b, o2, _, us2, S, rfl, D5.t, by omega, GS, fun z e => D4.off e, pS, by omega, by rw [← RS.e]; exact F2.few, fun H6 q2 ys D6 nq2 eq2 ly hy _ => ?_⟩
    have D16 := D5.draw D6.k D6.t
    have em6 := D6.k _ _ mb (s5 _ _ em)
    refine ⟨m, q2, _, _, rfl, rfl, em6, eq2, ?_, fun m2 nm2 => ?_⟩
    · rw [List.length_append, List.length_map, List.length_map, lx, ly]
      show 1 + 6 + 6 ≤ sizeLine
      decide
    have sm2 := same_new (o := .lst ([V.int 1] ++ xs.map V.int ++ ys.map V.int)) nm2
    have em2 := upd_same (H := H6) (a := m2) (o := .lst ([V.int 1] ++ xs.map V.int ++ ys.map V.int))
    revert sm2 em2
    generalize upd H6 m2 (.lst ([V.int 1] ++ xs.map V.int ++ ys.map V.int)) = H7
    intro sm2 em2
    have D7 := D16.same sm2
    have G17 := G1.keep (D7.k.weak hB)
    have G27 := G2.keep (D7.k.weak hB)
    have espots : [V.int 1] ++ xs.map V.int ++ ys.map V.int = ([1] ++ xs ++ ys).map V.int := by
      rw [List.map_append, List.map_append]
      rfl
    rw [espots] at em2
    have hspots : ∀ x ∈ [1] ++ xs ++ ys, 0 ≤ x ∧ x < 2 ^ 185 := fun x mx => by
      rcases List.mem_append.mp mx with mx | mx
      · rcases List.mem_append.mp mx with mx | mx
        · rw [List.mem_singleton.mp mx]
          exact ⟨by decide, by decide⟩
        · exact hx x mx
      · exact hy x mx
    revert em2 hspots
    generalize [1] ++ xs ++ ys = zs
    intro em2 hspots
    dsimp only [gName]
    refine ⟨.ref m2, rfl, m2, rfl, ⟨_, SqL.of em2⟩, fun D nD => ?_⟩
    refine lc_it (walk_list (xs := zs.map V.int)) (fun k Hx => Same H7 Hx ∧ Hx D = some (.lst [])) ⟨same_new nD, upd_same⟩ (fun k Hx _ hW => SqL.of (hW.1 _ _ em2)) (fun k x Hq Hx hk hW hY => ?_) (fun Hx hW => ?_)
    · obtain ⟨sx, eD⟩ := hW
      obtain ⟨rfl, hx⟩ := hY
      obtain ⟨j, ej, rfl⟩ := ints_at hx
      have hj := hspots j (List.mem_of_getElem? ej)
      have hj2 : j < 2 ^ 190 := Int.lt_trans hj.2 (by decide)
      refine ⟨rfl, .ref a2, rfl, .int j, rfl, BB, a2, t2, c2, j, rfl, G27.same sx, F2.c, F2.b, F2.l, hj.1, hj2, fun H8 s8 => ?_⟩
      refine ⟨.ref a1, rfl, .int j, rfl, BB, a1, t1, c1, j, rfl, (G17.same sx).same s8, F1.c, F1.b, F1.l, hj.1, hj2, fun H9 s9 => ?_⟩
      have hle := hles.inF j
      refine ⟨_, _, rfl, rfl, _, rfl, ifNo (decide_eq_false (by omega)) ⟨sx.trans (s8.trans s9), s9 _ _ (s8 _ _ eD)⟩⟩
    · obtain ⟨sx, eD⟩ := hW
      refine ⟨Nat.zero_le _, fun en nen => ?_⟩
      have se := same_new (o := .lst []) nen
      refine ⟨dInts [], dInts [], Dp.ints (ns := []) (se _ _ eD), Dp.ints (ns := []) upd_same, (Oks.ints _).shaped, (Oks.ints _).shaped, ?_⟩
      exact q _ (((D7.same sx).same se).more (by omega))
end
end El
namespace El
open PySem PySem.Spec PyProof.Rows L2
section
variable {P : Program} {w : World} {K : PySem.W.Frag} {mg : Str → Option Value} {base : Heap}
abbrev s__law_right : Stmt := topS 22
abbrev N__law_right : List Str := ["pot", "lot", "at", "count", "bears", "better", "fewer", "less_of_it", "turn"]
abbrev P__law_right : List Str := ["pot"]
theorem sc__law_right : FnScope N__law_right P__law_right (defScope s__law_right) := ⟨rfl, rfl, rfl, by decide +kernel, rfl, by decide +kernel, by decide +kernel⟩
theorem split_at {cs : List (Int × Int)} {i : Nat} {c : Int × Int} (e : cs[i]? = some c) : cs = cs.take i ++ [c] ++ cs.drop (i + 1) := by
  obtain ⟨hi, ei⟩ := List.getElem?_eq_some_iff.mp e
  rw [List.append_assoc, ← ei, List.singleton_append, ← List.drop_eq_getElem_cons hi, List.take_append_drop]
theorem Fed.of {cs : List (Int × Int)} (h : ∀ c ∈ cs, (1 ≤ c.1 ∧ c.1 ≤ 10 ^ 30) ∧ 0 ≤ c.2 ∧ c.2 ≤ 10 ^ 30) (l : cs.length ≤ 100) : Fed cs := ⟨fun c m => ⟨(h c m).1.1, (h c m).2.1⟩, fun c m => ⟨Int.lt_of_le_of_lt (h c m).1.2 (by decide), Int.lt_of_le_of_lt (h c m).2.2 (by decide)⟩, l⟩
/-- a list of pairs with others in the place of one -/
theorem GsAt.mid {H : Hp} {Z : Addr → Prop} {m q : Addr} {ts ws : List Addr} {ds es : List (Int × Int)} {j : Nat} (h : GsAt H Z m ts ds) (k : Prs H ws es) (hw : ∀ t ∈ ws, Z t) (zq : Z q) (e : H q = some (.lst ((ts.take j).map V.ref ++ ws.map V.ref ++ (ts.drop (j + 1)).map V.ref))) : GsAt H Z q (ts.take j ++ ws ++ ts.drop (j + 1)) (ds.take j ++ es ++ ds.drop (j + 1)) := by
  have pr := ((h.pr.take j).cat k).cat (h.pr.drop (j + 1))
  refine ⟨by rw [e, List.map_append, List.map_append], zq, pr.len, pr.at', fun t m => ?_⟩
  rcases List.mem_append.mp m with m | m
  · rcases List.mem_append.mp m with m | m
    · exact h.b t (List.mem_of_mem_take m)
    · exact hw t m
  · exact h.b t (List.mem_of_mem_drop m)
def sp__law_right : Sp := fun vs H Q _ => ∃ (b : Addr) (n : Nat), vs = [.ref b] ∧ Pot H b n ∧ n ≤ 100000 ∧ ∀ H', Kp (fun z => z ≠ b) H H' → Pot H' b (n + 900) → Q (.bl true) H'
theorem ok__law_right (A : At K mg "_law_right" P__law_right s__law_right) (B : Bi mg) (D__law_draw : Df P w K mg base 1 "_law_draw" P__law_draw s__law_draw sp__law_draw) (D__law_one_crowd : Df P w K mg base 2 "_law_one_crowd" P__law_one_crowd s__law_one_crowd sp__law_one_crowd) (D__law_lot : Df P w K mg base 3 "_law_lot" P__law_lot s__law_lot sp__law_lot)
    (D__law_sound : Df P w K mg base 5 "_law_sound" P__law_sound s__law_sound sp__law_sound) (D__law_no_fewer : Df P w K mg base 6 "_law_no_fewer" P__law_no_fewer s__law_no_fewer sp__law_no_fewer) : Df P w K mg base 7 "_law_right" P__law_right s__law_right sp__law_right := by
  refine A.df fun f fd F => F.ok sc__law_right (fun vs H Q E h => ?_) (fun cdv AA outer s H vs Q E hr h => ?_)
  · obtain ⟨_, _, rfl, _⟩ := h
    rfl
  · obtain ⟨b, n, rfl, hT, hn, q⟩ := h
    have nd := sc__law_right.nd
    refine ⟨_, (pss_cons (ps_set (i := 1) nd rfl (.inl rfl) (pe_op op_cat (pe_df D__law_lot (hr.mono (by decide)) (by rfl) (pa_cons (pv 0) (pa_cons (pe_ix ix_list (pe_lst (pa_cons pe_int (pa_cons pe_int pa_nil))) (pe_df D__law_draw (hr.mono (by decide)) (by rfl) (pa_cons (pv 0) (pa_cons pe_int pa_nil))) (fun _ _ => rfl)) (pa_cons (pe_op op_pow pe_int pe_int) pa_nil)))) (pe_lst (pa_cons (pe_df D__law_one_crowd (hr.mono (by decide)) (by rfl) (pa_cons (pv 0) (pa_cons pe_int (pa_cons (pe_op op_pow pe_int pe_int) pa_nil)))) pa_nil))))
    (pss_cons (ps_set (i := 2) nd rfl (.inl rfl) (pe_df D__law_draw (hr.mono (by decide)) (by rfl) (pa_cons (pv 0) (pa_cons (pe_callB call_len_seq (by rfl) B.len PySem.boot_len (pa_cons (pv 1) pa_nil)) pa_nil))))
    (pss_cons (ps_asg (pe_ix ix_list (pv 1) (pv 2) (fun _ _ => rfl)) (pg_tup (by rfl) (pgs_cons (pg_name (i := 3) nd rfl (.inl rfl)) (pgs_cons (pg_name (i := 4) nd rfl (.inr rfl)) pgs_nil))))
    (pss_cons (ps_set (i := 5) nd rfl (.inl rfl) (pe_op op_cat (pe_op op_cat (pe_slice sl_list (pv 1) po_none (po_some (pv 2))) (pe_lst (pa_cons (pe_tup (pa_cons (pv 3) (pa_cons (pe_op op_add (pe_op op_add (pv 4) pe_int) (pe_df D__law_draw (hr.mono (by decide)) (by rfl) (pa_cons (pv 0) (pa_cons (pe_ix ix_list (pe_lst (pa_cons pe_int (pa_cons (pe_op op_pow pe_int pe_int) pa_nil))) (pe_df D__law_draw (hr.mono (by decide)) (by rfl) (pa_cons (pv 0) (pa_cons pe_int pa_nil))) (fun _ _ => rfl)) pa_nil)))) pa_nil))) pa_nil))) (pe_slice sl_list (pv 1) (po_some (pe_op op_add (pv 2) pe_int)) po_none)))
    (pss_cons (ps_set (i := 6) nd rfl (.inr rfl) (pe_df D__law_draw (hr.mono (by decide)) (by rfl) (pa_cons (pv 0) (pa_cons (pv 3) pa_nil))))
    (pss_cons (ps_set (i := 7) nd rfl (.inl rfl) (pe_op op_cat (pe_op op_cat (pe_slice sl_list (pv 1) po_none (po_some (pv 2))) (pe_lc (own := [("turn", 8)]) (tt := tYes) rfl nd (pi_range1 (by rfl) B.range (pa_cons (pe_callTy call_int1 (by rfl) B.int_ (by decide +kernel) (pa_cons (pe_cmpR op_gt (pv 6) pe_int (nomark _)) pa_nil)) pa_nil)) (blkOk_by (N := N__law_right) (sc := defScope s__law_right) (by decide +kernel)) (fun _ _ _ _ _ => (pg_name (i := 8) nd rfl (.inl rfl))) (fun _ _ _ _ _ => pts_nil) (fun _ _ _ _ _ => (pe_tup (pa_cons (pv 6) (pa_cons (pv 4) pa_nil)))))) (pe_slice sl_list (pv 1) (po_some (pe_op op_add (pv 2) pe_int)) po_none)))
    (pss_cons (ps_if (PW.pt (pw_or (pt_not (pt_val (pe_df D__law_sound (hr.mono (by decide)) (by rfl) (pa_cons (pv 1) pa_nil)))) (pw_or (pt_not (pt_val (pe_df D__law_sound (hr.mono (by decide)) (by rfl) (pa_cons (pv 5) pa_nil)))) (pw_or1 (pt_not (pt_val (pe_df D__law_sound (hr.mono (by decide)) (by rfl) (pa_cons (pv 7) pa_nil)))))))) (pss_one (ps_ret pe_bl)) pss_nil)
    (pss_one (ps_ret (pe_and (pe_df D__law_no_fewer (hr.mono (by decide)) (by rfl) (pa_cons (pv 0) (pa_cons (pv 1) (pa_cons (pv 5) pa_nil)))) (pe_one (pe_df D__law_no_fewer (hr.mono (by decide)) (by rfl) (pa_cons (pv 0) (pa_cons (pv 7) (pa_cons (pv 1) pa_nil))))))))))))))), ?_⟩
    have e29 : (10 : Int) ^ Int.toNat 29 = 10 ^ 29 := by decide
    have w6 : (6 : Int) ≤ 10 ^ Int.toNat 29 := by decide
    have w1 : (10 : Int) ^ Int.toNat 29 < 2 ^ 150 := by decide
    have nb : ∀ z, H z = none → z ≠ b := fun z e => hT.off e
    -- lot
    refine ⟨.ref b, rfl, (by show 2 ≤ sizeLine; decide), fun p np => ⟨.ref b, rfl, b, n, 2, rfl, hT.same (same_new np), by omega, by decide, by decide, fun H1 r1 k1 T1 r10 r11 => ?_⟩⟩
    have D1 := ((Dr.start hT).same (same_new (o := .lst [.int 3, .int 38]) np)).draw k1 T1
    have pb : p ≠ b := hT.off np
    obtain ⟨v, hv, v0, v38⟩ := pick2 (P := fun v => 0 ≤ v ∧ v ≤ 38) r10 r11 (a := 3) (b := 38) ⟨by decide, by decide⟩ ⟨by decide, by decide⟩
    refine ⟨p, _, _, .int v, rfl, rfl, SqL.of (k1 _ _ pb upd_same), hv, _, _, rfl, rfl, ⟨by decide, by decide, by decide⟩, b, _, v, _, rfl, T1, by omega, v0, by omega, w6, w1, fun H2 lo us cs D2 G2 l2 LL => ?_⟩
    rw [e29] at LL
    have lcs : cs.length ≤ 38 := by omega
    have D12 := D1.draw D2.k D2.t
    have GL2 : GsAt H2 (fun z => H z = none) lo us cs := G2.reB fun z _ e => D1.v z e
    refine ⟨.ref b, rfl, _, _, rfl, rfl, ⟨by decide, by decide, by decide⟩, b, _, 1, _, rfl, D12.t, by omega, by decide, w6, w1, fun H3 t c D3 nt et hc => ⟨(by show 1 ≤ sizeLine; decide), fun l nl => ?_⟩⟩
    rw [e29] at hc
    have D13 := D12.draw D3.k D3.t
    have sl := same_new (o := .lst [.ref t]) nl
    have GL3 := (GL2.keep (D3.k.weak nb)).same sl
    have etl := sl _ _ et
    have el := upd_same (H := H3) (a := l) (o := .lst [.ref t])
    have D13l := D13.same sl
    revert GL3 etl el D13l sl
    generalize upd H3 l (.lst [.ref t]) = H4
    intro sl GL3 etl el D13l
    refine ⟨lo, l, _, _, rfl, rfl, GL3.top, el, ?_, fun m nm => ?_⟩
    · rw [List.length_map, GL3.len]
      show cs.length + 1 ≤ sizeLine
      exact Nat.le_of_lt (ils (by omega))
    have sm := same_new (o := .lst (us.map V.ref ++ [.ref t])) nm
    have GM : GsAt (upd H4 m (.lst (us.map V.ref ++ [.ref t]))) (fun z => H z = none) m (us ++ [t]) (cs ++ [c]) := by
      have pr2 := ((GL3.pr).cat (Prs.nil.cons (g := c) etl)).same sm
      refine ⟨by rw [upd_same, List.map_append]; rfl, D13l.v _ nm, pr2.len, pr2.at', fun z mz => ?_⟩
      rcases List.mem_append.mp mz with mz | mz
      · exact GL3.b z mz
      · rw [List.mem_singleton.mp mz]
        exact D12.v _ nt
    have LM : ∀ x ∈ cs ++ [c], (1 ≤ x.1 ∧ x.1 ≤ 10 ^ 29) ∧ 0 ≤ x.2 ∧ x.2 ≤ 10 ^ 29 := fun x mx => by
      rcases List.mem_append.mp mx with mx | mx
      · exact LL x mx
      · rw [List.mem_singleton.mp mx]
        exact hc
    have lM : (cs ++ [c]).length ≤ 39 := by
      rw [List.length_append, List.length_singleton]
      omega
    have pM : 0 < (cs ++ [c]).length := by
      rw [List.length_append, List.length_singleton]
      omega
    have DM := D13l.same sm
    revert GM LM lM pM DM
    generalize upd H4 m (.lst (us.map V.ref ++ [.ref t])) = H5
    generalize us ++ [t] = ts
    generalize cs ++ [c] = ds
    intro GM LM lM pM DM
    clear GL3 etl el D13l sl sm LL hc GL2 G2 D12 D13 l2
    dsimp only [gName]
    -- at
    refine ⟨.ref b, rfl, .ref m, rfl, m, _, rfl, .inl GM.seq, b, _, _, rfl, DM.t, by omega, ?_, ?_, fun H6 r6 k6 T6 r60 r61 => ?_⟩
    · rw [List.length_map, GM.len]
      omega
    · rw [List.length_map, GM.len]
      exact Int.lt_of_le_of_lt (show (ds.length : Int) ≤ 39 by omega) (by decide)
    rw [List.length_map, GM.len] at r61
    obtain ⟨j, rfl⟩ : ∃ j : Nat, r6 = j := ⟨r6.toNat, by omega⟩
    obtain ⟨g, eg⟩ := at_some (show j < ds.length by omega)
    have D6 := DM.draw k6 T6
    have G6 := GM.keep (k6.weak nb)
    have mg' := LM g (List.mem_of_getElem? eg)
    obtain ⟨tg, etg, ehg⟩ := G6.at_ eg
    dsimp only [gName]
    -- count, bears
    refine ⟨.ref m, rfl, .int (j : Nat), rfl, m, _, (j : Int), .ref tg, rfl, rfl, G6.seq, atI_nat etg, tg, _, rfl, SqT.of ehg, rfl, .int g.1, _, rfl, .int g.2, _, rfl, rfl, ?_⟩
    -- better
    dsimp only
    refine seq_to (fun σ Hx => ∃ (be : Addr) (ws : List Addr) (b2 : Int), σ = [some (.ref b), some (.ref m), some (.int (j : Nat)), some (.int g.1), some (.int g.2), some (.ref be), none, none, none] ∧ Dr H b (n + 640) Hx ∧ GsAt Hx (fun z => H z = none) m ts ds ∧ GsAt Hx (fun z => H z = none) be ws (ds.take j ++ [(g.1, b2)] ++ ds.drop (j + 1)) ∧ g.2 ≤ b2 ∧ b2 ≤ 10 ^ 30) (fun Y hY => ?_) (fun σ H7 hE => ?_)
    · refine ⟨.ref m, rfl, .int (j : Nat), rfl, _, rfl, m, _, rfl, G6.seq, fun p7 np7 => ?_⟩
      rw [cut_to, ← List.map_take]
      have s7 := same_new (o := .lst ((ts.take j).map V.ref)) np7
      have D7 := D6.same s7
      have e7 := upd_same (H := H6) (a := p7) (o := .lst ((ts.take j).map V.ref))
      have G7 := G6.same s7
      revert s7 D7 e7 G7
      generalize upd H6 p7 (.lst ((ts.take j).map V.ref)) = H7
      intro s7 D7 e7 G7
      have p7b : p7 ≠ b := D6.off np7
      refine ⟨.int g.1, rfl, .int g.2, rfl, _, _, rfl, rfl, .ref b, rfl, ?_⟩
      refine ⟨_, _, rfl, rfl, ⟨by decide, by decide, by decide⟩, (by show 2 ≤ sizeLine; decide), fun p8 np8 => ?_⟩
      have s8 := same_new (o := .lst [.int 3, .int (10 ^ Int.toNat 29)]) np8
      have p8b : p8 ≠ b := D7.off np8
      refine ⟨.ref b, rfl, b, _, 2, rfl, (D7.same s8).t, by omega, by decide, by decide, fun H8 r8 k8 T8 r80 r81 => ?_⟩
      have D8 := (D7.same s8).draw k8 T8
      obtain ⟨v8, hv8, v80, v81⟩ := pick2 (P := fun v => 0 < v ∧ v ≤ 10 ^ 29) r80 r81 (a := 3) (b := 10 ^ Int.toNat 29) ⟨by decide, by decide⟩ ⟨by decide, by decide⟩
      refine ⟨p8, _, _, .int v8, rfl, rfl, SqL.of (k8 _ _ p8b upd_same), hv8, b, _, v8, rfl, T8, by omega, v80, Int.lt_of_le_of_lt v81 (by decide), fun H9 r9 k9 T9 r90 r91 => ⟨_, _, rfl, rfl, (by show 2 ≤ sizeLine; decide), fun t1 nt1 => ⟨(by show 1 ≤ sizeLine; decide), fun l1 nl1 => ?_⟩⟩⟩
      have D9 := D8.draw k9 T9
      have G9 := ((G7.same s8).keep (k8.weak nb)).keep (k9.weak nb)
      have e9 := k9 _ _ p7b (k8 _ _ p7b (s8 _ _ e7))
      have u1 := same_new (o := .tup [.int g.1, .int (g.2 + 1 + r9)]) nt1
      have ul := same_new (o := .lst [.ref t1]) nl1
      have x1 := ul _ _ (upd_same (H := H9) (a := t1) (o := .tup [.int g.1, .int (g.2 + 1 + r9)]))
      have xl := upd_same (H := upd H9 t1 (.tup [.int g.1, .int (g.2 + 1 + r9)])) (a := l1) (o := .lst [.ref t1])
      have e10 := ul _ _ (u1 _ _ e9)
      have D10 := (D9.same u1).same ul
      have G10 := (G9.same u1).same ul
      have z1 : H t1 = none := D9.v _ nt1
      revert x1 xl e10 D10 G10
      generalize upd (upd H9 t1 (.tup [.int g.1, .int (g.2 + 1 + r9)])) l1 (.lst [.ref t1]) = HX
      intro x1 xl e10 D10 G10
      clear ul u1
      have lts : ts.length ≤ 39 := by rw [GM.len]; exact lM
      refine ⟨p7, l1, _, _, rfl, rfl, e10, xl, ?_, fun m1 nm1 => ?_⟩
      · rw [List.length_map, List.length_take]
        show min j ts.length + 1 ≤ sizeLine
        exact Nat.le_of_lt (ils (by omega))
      have s11 := same_new (o := .lst ((ts.take j).map V.ref ++ [.ref t1])) nm1
      refine ⟨.ref m, rfl, .int (j : Nat), rfl, _, _, rfl, rfl, _, rfl, m, _, rfl, (G10.same s11).seq, fun p2 np2 => ?_⟩
      rw [show ((j : Nat) : Int) + 1 = ((j + 1 : Nat) : Int) from rfl, cutFrom, ← List.map_drop]
      have s12 := same_new (o := .lst ((ts.drop (j + 1)).map V.ref)) np2
      refine ⟨m1, p2, _, _, rfl, rfl, s12 _ _ upd_same, upd_same, ?_, fun m2 nm2 => ?_⟩
      · rw [List.length_append, List.length_map, List.length_map, List.length_take, List.length_drop]
        show min j ts.length + 1 + (ts.length - (j + 1)) ≤ sizeLine
        exact Nat.le_of_lt (ils (by omega))
      have s13 := same_new (o := .lst ((ts.take j).map V.ref ++ [.ref t1] ++ (ts.drop (j + 1)).map V.ref)) nm2
      have s113 := s11.trans (s12.trans s13)
      have D12 := ((D10.same s11).same s12)
      have D13 := D12.same s13
      have G13 := G10.same s113
      have w1 : Prs _ [t1] [(g.1, g.2 + 1 + r9)] := Prs.nil.cons (g := (g.1, g.2 + 1 + r9)) (s113 _ _ x1)
      exact hY _ _ ⟨m2, _, g.2 + 1 + r9, rfl, D13.more (by omega), G13, G13.mid w1 (fun t mt => by rw [List.mem_singleton.mp mt]; exact z1) (D12.v _ nm2) upd_same, by omega, by omega⟩
    obtain ⟨be, ws, b2, rfl, D7, GM7, GB7, hb2, hb3⟩ := hE
    -- fewer
    have g200 : g.1 < 2 ^ 200 := Int.lt_of_le_of_lt mg'.1.2 (by decide)
    refine ⟨.ref b, rfl, .int g.1, rfl, b, _, g.1, rfl, D7.t, by omega, by omega, g200, fun H8 f k8 T8 f0 f1 => ?_⟩
    have D8 := D7.draw k8 T8
    have GM8 := GM7.keep (k8.weak nb)
    have GB8 := GB7.keep (k8.weak nb)
    dsimp only [gName]
    -- less of it
    refine seq_to (fun σ Hx => ∃ (le : Addr) (xs : List Addr) (es : List (Int × Int)), σ = [some (.ref b), some (.ref m), some (.int (j : Nat)), some (.int g.1), some (.int g.2), some (.ref be), some (.int f), some (.ref le), none] ∧ Dr H b (n + 650) Hx ∧ GsAt Hx (fun z => H z = none) m ts ds ∧ GsAt Hx (fun z => H z = none) be ws (ds.take j ++ [(g.1, b2)] ++ ds.drop (j + 1)) ∧ GsAt Hx (fun z => H z = none) le xs (ds.take j ++ es ++ ds.drop (j + 1)) ∧ ((f = 0 ∧ es = []) ∨ (0 < f ∧ es = [(f, g.2)]))) (fun Y hY => ?_) (fun σ H9 hE => ?_)
    · have lts : ts.length ≤ 39 := by rw [GM8.len]; exact lM
      refine ⟨.ref m, rfl, .int (j : Nat), rfl, _, rfl, m, _, rfl, GM8.seq, fun p7 np7 => ?_⟩
      rw [cut_to, ← List.map_take]
      have s7 := same_new (o := .lst ((ts.take j).map V.ref)) np7
      have D9 := D8.same s7
      have e9 := upd_same (H := H8) (a := p7) (o := .lst ((ts.take j).map V.ref))
      have GM9 := GM8.same s7
      have GB9 := GB8.same s7
      revert s7 D9 e9 GM9 GB9
      generalize upd H8 p7 (.lst ((ts.take j).map V.ref)) = H9
      intro s7 D9 e9 GM9 GB9
      obtain ⟨cnt, hcnt, hc1⟩ : ∃ cnt : Nat, (if decide (0 < f) = true then (1 : Int) else 0) = (cnt : Int) ∧ ((f = 0 ∧ cnt = 0) ∨ (0 < f ∧ cnt = 1)) := by
        by_cases h0 : 0 < f
        · exact ⟨1, by rw [if_pos (decide_eq_true h0)]; rfl, .inr ⟨h0, rfl⟩⟩
        · exact ⟨0, by rw [if_neg (by simpa using h0)]; rfl, .inl ⟨by omega, rfl⟩⟩
      refine ⟨.int f, rfl, _, _, rfl, rfl, .inr ⟨_, rfl, ?_⟩⟩
      refine ⟨(cnt : Int), by rw [← hcnt], by omega, by omega, fun D nD => ?_⟩
      have hcn : (cnt : Int).toNat ≤ 1 := by omega
      refine lc_it walk_range (fun k Hx => Same H9 Hx ∧ ∃ vs : List Addr, Hx D = some (.lst (vs.map V.ref)) ∧ vs.length = k ∧ Prs Hx vs (List.replicate k (f, g.2)) ∧ ∀ t ∈ vs, H t = none) ⟨same_new nD, [], upd_same, rfl, Prs.nil, fun _ m => absurd m List.not_mem_nil⟩ (fun _ _ _ _ => trivial) (fun k x Hq Hx hk hW hY2 => ?_) (fun Hx hW => ?_)
      · obtain ⟨sx, vs, eD, lv, pv, hv⟩ := hW
        obtain ⟨rfl, rfl⟩ := hY2
        refine ⟨rfl, .int f, rfl, .int g.2, rfl, (by show 2 ≤ sizeLine; decide), fun t1 nt1 => ?_⟩
        have u1 := same_new (o := .tup [.int f, .int g.2]) nt1
        have tD : D ≠ t1 := ne_of_none eD nt1
        have eD1 := u1 _ _ eD
        have sD := Same.mut (sx.trans u1) nD (o := .lst (vs.map V.ref ++ [.ref t1]))
        refine ⟨_, eD1, ils (by rw [List.length_map, lv]; omega), sD, vs ++ [t1], by rw [upd_same, List.map_append]; rfl, by rw [List.length_append, lv]; rfl, ?_, fun t mt => ?_⟩
        · have keepP : ∀ z, z ∈ vs ++ [t1] → z ≠ D := fun z mz e => by
            rcases List.mem_append.mp mz with mz | mz
            · obtain ⟨i, ei⟩ := List.mem_iff_getElem?.mp mz
              obtain ⟨q, eq⟩ := at_some (l := List.replicate k (f, g.2)) (i := i) (by rw [List.length_replicate, ← lv]; exact at_lt ei)
              have := pv.at' i z q ei eq
              rw [e, eD] at this
              cases this
            · exact tD (by rw [← List.mem_singleton.mp mz, e])
          have p1 := (pv.same u1).cat (Prs.nil.cons (g := (f, g.2)) upd_same)
          rw [List.replicate_succ']
          refine ⟨p1.len, fun i z q e1 e2 => ?_⟩
          rw [upd_ne (keepP z (List.mem_of_getElem? e1))]
          exact p1.at' i z q e1 e2
        · rcases List.mem_append.mp mt with mt | mt
          · exact hv t mt
          · rw [List.mem_singleton.mp mt]
            exact D9.v _ (sx.free nt1)
      · obtain ⟨sx, vs, eD, lv, pv, hv⟩ := hW
        have D10 := D9.same sx
        have GM10 := GM9.same sx
        have GB10 := GB9.same sx
        have e10 := sx _ _ e9
        refine ⟨p7, D, _, _, rfl, rfl, e10, eD, ?_, fun m1 nm1 => ?_⟩
        · rw [List.length_map, List.length_take, List.length_map, lv]
          exact Nat.le_of_lt (ils (by omega))
        have s11 := same_new (o := .lst ((ts.take j).map V.ref ++ vs.map V.ref)) nm1
        refine ⟨.ref m, rfl, .int (j : Nat), rfl, _, _, rfl, rfl, _, rfl, m, _, rfl, (GM10.same s11).seq, fun p2 np2 => ?_⟩
        rw [show ((j : Nat) : Int) + 1 = ((j + 1 : Nat) : Int) from rfl, cutFrom, ← List.map_drop]
        have s12 := same_new (o := .lst ((ts.drop (j + 1)).map V.ref)) np2
        refine ⟨m1, p2, _, _, rfl, rfl, s12 _ _ upd_same, upd_same, ?_, fun m2 nm2 => ?_⟩
        · rw [List.length_append, List.length_map, List.length_map, List.length_map, List.length_take, List.length_drop, lv]
          exact Nat.le_of_lt (ils (by omega))
        have s13 := same_new (o := .lst ((ts.take j).map V.ref ++ vs.map V.ref ++ (ts.drop (j + 1)).map V.ref)) nm2
        have s113 := s11.trans (s12.trans s13)
        have D12 := ((D10.same s11).same s12)
        have D13 := D12.same s13
        have GM13 := GM10.same s113
        refine hY _ _ ⟨m2, _, _, rfl, D13.more (by omega), GM13, GB10.same s113, GM13.mid (pv.same s113) hv (D12.v _ nm2) upd_same, ?_⟩
        rcases hc1 with ⟨a1, a2⟩ | ⟨a1, a2⟩
        · exact .inl ⟨a1, by rw [a2]; rfl⟩
        · exact .inr ⟨a1, by rw [a2]; rfl⟩
    obtain ⟨le, xs, es, rfl, D9, GM9, GB9, GL9, hes⟩ := hE
    have nA : ∀ c ∈ ds.take j, 0 ≤ c.2 := fun c mc => (LM c (List.mem_of_mem_take mc)).2.1
    have nB : ∀ c ∈ ds.drop (j + 1), 0 ≤ c.2 := fun c mc => (LM c (List.mem_of_mem_drop mc)).2.1
    have eds := split_at eg
    have l29 : (10 : Int) ^ 29 ≤ 10 ^ 30 := by decide
    have F0 : Fed ds := Fed.of (fun c mc => by have := LM c mc; exact ⟨⟨this.1.1, by omega⟩, this.2.1, by omega⟩) (by omega)
    have fed : ∀ (qs : List (Int × Int)), qs.length ≤ 1 → (∀ c ∈ qs, (1 ≤ c.1 ∧ c.1 ≤ 10 ^ 30) ∧ 0 ≤ c.2 ∧ c.2 ≤ 10 ^ 30) → Fed (ds.take j ++ qs ++ ds.drop (j + 1)) := fun qs lq hq => Fed.of (fun c mc => by
      rcases List.mem_append.mp mc with mc | mc
      · rcases List.mem_append.mp mc with mc | mc
        · have := LM c (List.mem_of_mem_take mc)
          exact ⟨⟨this.1.1, by omega⟩, this.2.1, by omega⟩
        · exact hq c mc
      · have := LM c (List.mem_of_mem_drop mc)
        exact ⟨⟨this.1.1, by omega⟩, this.2.1, by omega⟩) (by
      rw [List.length_append, List.length_append, List.length_take, List.length_drop]
      omega)
    have FB : Fed (ds.take j ++ [(g.1, b2)] ++ ds.drop (j + 1)) := fed _ (Nat.le_refl _) fun c mc => by
      rw [List.mem_singleton.mp mc]
      exact ⟨⟨mg'.1.1, by show g.1 ≤ 10 ^ 30; omega⟩, by show 0 ≤ b2; omega, hb3⟩
    have FL : Fed (ds.take j ++ es ++ ds.drop (j + 1)) := by
      rcases hes with ⟨_, rfl⟩ | ⟨h0, rfl⟩
      · exact fed _ (Nat.zero_le _) fun c mc => absurd mc List.not_mem_nil
      · refine fed _ (Nat.le_refl _) fun c mc => ?_
        rw [List.mem_singleton.mp mc]
        exact ⟨⟨by show 1 ≤ f; omega, by show f ≤ 10 ^ 30; omega⟩, mg'.2.1, by show g.2 ≤ 10 ^ 30; omega⟩
    have LB : Les (seat ds) (seat (ds.take j ++ [(g.1, b2)] ++ ds.drop (j + 1))) := by
      have := les_better (c := g.1) nA nB mg'.2.1 hb2
      rw [show (g.1, g.2) = g from rfl, ← eds] at this
      exact this
    have LF : Les (seat (ds.take j ++ es ++ ds.drop (j + 1))) (seat ds) := by
      rcases hes with ⟨_, rfl⟩ | ⟨h0, rfl⟩
      · have := les_without (c := g.1) nA nB mg'.2.1
        rw [show (g.1, g.2) = g from rfl, ← eds] at this
        exact this
      · have := les_fewer (c := g.1) (f := f) nA nB mg'.2.1 (by omega)
        rw [show (g.1, g.2) = g from rfl, ← eds] at this
        exact this
    -- sound, all three
    refine seq_to (fun σ Hx => σ = [some (.ref b), some (.ref m), some (.int (j : Nat)), some (.int g.1), some (.int g.2), some (.ref be), some (.int f), some (.ref le), none] ∧ Same H9 Hx) (fun Y hY => ?_) (fun σ H10 hE => ?_)
    · refine ⟨.ref m, rfl, _, m, ts, ds, rfl, GM9, F0.c, F0.b, F0.l, fun Ha sa => ⟨_, rfl, ifNo rfl ?_⟩⟩
      refine ⟨.ref be, rfl, _, be, ws, _, rfl, GB9.same sa, FB.c, FB.b, FB.l, fun Hb sb => ⟨_, rfl, ifNo rfl ?_⟩⟩
      refine ⟨.ref le, rfl, _, le, xs, _, rfl, (GL9.same sa).same sb, FL.c, FL.b, FL.l, fun Hc sc => ⟨_, rfl, ifNo rfl ?_⟩⟩
      exact hY _ _ ⟨rfl, sa.trans (sb.trans sc)⟩
    obtain ⟨rfl, s10⟩ := hE
    have D10 := D9.same s10
    refine ⟨.ref b, rfl, .ref m, rfl, .ref be, rfl, _, b, m, be, _, ts, ws, ds, _, rfl, D10.t, by omega, nb, GM9.same s10, GB9.same s10, F0, FB, LB, fun H11 D11 => ⟨_, rfl, ifYes rfl ?_⟩⟩
    have kD := D11.k.weak nb
    have D12 := D10.draw D11.k D11.t
    refine ⟨.ref b, rfl, .ref le, rfl, .ref m, rfl, _, b, le, m, _, xs, ts, _, ds, rfl, D11.t, by omega, nb, (GL9.same s10).keep kD, (GM9.same s10).keep kD, FL, F0, LF, fun H12 D13 => ?_⟩
    have D14 := D12.draw D13.k D13.t
    exact q _ D14.k (D14.t.more (by omega))
end
end El
namespace El
open PySem PySem.Spec PyProof.Rows L2
section
variable {P : Program} {w : World} {K : PySem.W.Frag} {mg : Str → Option Value} {base : Heap}
abbrev s_law : Stmt := topS 23
abbrev N_law : List Str := ["script", "at", "pot", "turn"]
abbrev P_law : List Str := ["script"]
theorem sc_law : FnScope N_law P_law (defScope s_law) := ⟨rfl, rfl, rfl, by decide +kernel, rfl, by decide +kernel, by decide +kernel⟩
def sp_law (K : PySem.W.Frag) : Sp := fun vs H Q _ => ∃ (a : Addr) (ns : List Int), vs = [.ref a] ∧ SqL K H a (ns.map V.int) ∧ ns.length ≤ 63 ∧ ∀ H', Q (.bl true) H'
theorem ok_law (A : At K mg "law" P_law s_law) (B : Bi mg) (D__law_pot : Df P w K mg base 1 "_law_pot" P__law_pot s__law_pot (sp__law_pot K)) (D__law_right : Df P w K mg base 7 "_law_right" P__law_right s__law_right sp__law_right) : Df P w K mg base 8 "law" P_law s_law (sp_law K) := by
  refine A.df fun f fd F => F.ok sc_law (fun vs H Q E h => ?_) (fun cdv AA outer s H vs Q E hr h => ?_)
  · obtain ⟨_, _, rfl, _⟩ := h
    rfl
  · obtain ⟨a, ns, rfl, hS, hl, q⟩ := h
    have nd := sc_law.nd
    refine ⟨_, (pss_cons (ps_for PassesOwn.never rfl (pi_range1 (by rfl) B.range (pa_cons (pe_callB (call_max2 rfl) (by rfl) B.max (by decide +kernel) (pa_cons pe_int (pa_cons (pe_callB (call_min2 rfl) (by rfl) B.min (by decide +kernel) (pa_cons pe_int (pa_cons (pe_callB call_len_seq (by rfl) B.len PySem.boot_len (pa_cons (pv 0) pa_nil)) pa_nil))) pa_nil))) pa_nil)) (pg_name (i := 1) nd rfl (.inl rfl)) (pss_cons (ps_set (i := 2) nd rfl (.inl rfl) (pe_df D__law_pot (hr.mono (by decide)) (by rfl) (pa_cons (pv 0) (pa_cons (pv 1) pa_nil)))) (pss_one (ps_for PassesOwn.never rfl (pi_range1 (by rfl) B.range (pa_cons pe_int pa_nil)) (pg_name (i := 3) nd rfl (.inl rfl)) (pss_one (ps_if (pt_not (pt_val (pe_df D__law_right (hr.mono (by decide)) (by rfl) (pa_cons (pv 2) pa_nil)))) (pss_one (ps_ret pe_bl)) pss_nil))))))
    (pss_one (ps_ret pe_bl))), ?_⟩
    refine ⟨.ref a, rfl, a, _, rfl, .inl hS, _, _, rfl, _, _, rfl, _, rfl, ?_, ?_, ?_⟩
    · split <;> split <;> omega
    · split <;> split <;> omega
    refine for_it walk_range (fun i σ H2 => ∃ y1 y2 y3, σ = [some (.ref a), y1, y2, y3] ∧ Same H H2) ⟨_, _, _, rfl, fun _ _ e => e⟩ (fun _ _ _ _ _ => trivial) (fun i x σ H2 H3 hi hW hY => ?_) (fun σ H2 hW => ?_)
    · obtain ⟨y1, y2, y3, rfl, s2⟩ := hW
      obtain ⟨rfl, rfl⟩ := hY
      have hi5 : i < 6 := by
        revert hi
        split <;> split <;> omega
      refine ⟨.ref a, rfl, .int (0 + (i : Int)), rfl, a, ns, i, by rw [Int.zero_add]; rfl, s2.seq hS, by omega, fun H4 b s4 nb T4 => ?_⟩
      dsimp only [gName]
      refine ⟨_, rfl, by decide, by decide, ?_⟩
      refine for_it walk_range (fun k σ H5 => ∃ y3, σ = [some (.ref a), some (.int (0 + (i : Int))), some (.ref b), y3] ∧ Same H H5 ∧ Pot H5 b (900 * k)) ⟨_, rfl, s2.trans s4, T4⟩ (fun _ _ _ _ _ => trivial) (fun k x σ H5 H6 hk hW hY => ?_) (fun σ H5 hW => ?_)
      · obtain ⟨y3, rfl, s5, T5⟩ := hW
        obtain ⟨rfl, rfl⟩ := hY
        have hk3 : k < 2 := hk
        refine ⟨.ref b, rfl, b, _, rfl, T5, by omega, fun H7 k7 T7 => ⟨_, rfl, ?_⟩⟩
        refine ifNo rfl ?_
        have nb0 : H b = none := s2.free nb
        exact ⟨_, rfl, fun z u e => k7 z u (fun y => by rw [y, nb0] at e; cases e) (s5 z u e), T7.more (by omega)⟩
      · obtain ⟨y3, rfl, s5, T5⟩ := hW
        exact ⟨_, _, _, rfl, s5⟩
    · obtain ⟨y1, y2, y3, rfl, s2⟩ := hW
      exact q H2
end
end El
namespace El
open PySem PySem.Spec PyProof.Rows L2
theorem all_mk {l : PySem.W.OpenLaw} {w : World} {K : PySem.W.Frag} {h : Heap} {mg : Str → Option Value} {fa f1 f2 f3 f4 f5 f6 f7 f8 f9 f10 f11 f12 f13 f14 f15 f16 f17 : Addr} (X : K.In h) (G : h.Ns mainGlobals mg) (hfa : mg "law" = some (.ref fa))
    {od1 an1 od2 an2 od3 an3 od4 an4 od5 an5 od6 an6 od7 an7 od8 an8 od9 an9 od10 an10 od11 an11 od12 an12 od13 an13 od14 an14 od15 an15 od16 an16 od17 an17 : Option Addr} {sl1 sl2 sl3 sl4 sl5 sl6 sl7 sl8 sl9 sl10 sl11 sl12 sl13 sl14 sl15 sl16 sl17 : Array (Option Value)} {oc1 kV1 dc1 pm1 cd1 ct1 oc2 kV2 dc2 pm2 cd2 ct2 oc3 kV3 dc3 pm3 cd3 ct3 oc4 kV4 dc4 pm4 cd4 ct4 oc5 kV5 dc5 pm5 cd5 ct5 oc6 kV6 dc6 pm6 cd6 ct6 oc7 kV7 dc7 pm7 cd7 ct7 oc8 kV8 dc8 pm8 cd8 ct8 oc9 kV9 dc9 pm9 cd9 ct9 oc10 kV10 dc10 pm10 cd10 ct10 oc11 kV11 dc11 pm11 cd11 ct11 oc12 kV12 dc12 pm12 cd12 ct12 oc13 kV13 dc13 pm13 cd13 ct13 oc14 kV14 dc14 pm14 cd14 ct14 oc15 kV15 dc15 pm15 cd15 ct15 oc16 kV16 dc16 pm16 cd16 ct16 oc17 kV17 dc17 pm17 cd17 ct17 : Value}
    (a1 : PySem.W.nsIn K mainGlobals "check_first" = some (some (.ref f1))) (l1 : K.lookup f1 = some ⟨oc1, od1, .func (PySem.W.fnOf "check_first" "check_first" (defArgs s_check_first) (defBody s_check_first) (defScope s_check_first) .none kV1 dc1 pm1 an1 cd1 ct1), sl1⟩) (c1 : PySem.W.codeIn K cd1 "check_first" = true) (k1 : PySem.W.keepIn K (.ref f1) = true)
    (a2 : PySem.W.nsIn K mainGlobals "is_crowd" = some (some (.ref f2))) (l2 : K.lookup f2 = some ⟨oc2, od2, .func (PySem.W.fnOf "is_crowd" "is_crowd" (defArgs s_is_crowd) (defBody s_is_crowd) (defScope s_is_crowd) .none kV2 dc2 pm2 an2 cd2 ct2), sl2⟩) (c2 : PySem.W.codeIn K cd2 "is_crowd" = true) (k2 : PySem.W.keepIn K (.ref f2) = true)
    (a3 : PySem.W.nsIn K mainGlobals "check_crowds" = some (some (.ref f3))) (l3 : K.lookup f3 = some ⟨oc3, od3, .func (PySem.W.fnOf "check_crowds" "check_crowds" (defArgs s_check_crowds) (defBody s_check_crowds) (defScope s_check_crowds) .none kV3 dc3 pm3 an3 cd3 ct3), sl3⟩) (c3 : PySem.W.codeIn K cd3 "check_crowds" = true) (k3 : PySem.W.keepIn K (.ref f3) = true)
    (a4 : PySem.W.nsIn K mainGlobals "places" = some (some (.ref f4))) (l4 : K.lookup f4 = some ⟨oc4, od4, .func (PySem.W.fnOf "places" "places" (defArgs s_places) (defBody s_places) (defScope s_places) .none kV4 dc4 pm4 an4 cd4 ct4), sl4⟩) (c4 : PySem.W.codeIn K cd4 "places" = true) (k4 : PySem.W.keepIn K (.ref f4) = true)
    (a5 : PySem.W.nsIn K mainGlobals "grown_rooms" = some (some (.ref f5))) (l5 : K.lookup f5 = some ⟨oc5, od5, .func (PySem.W.fnOf "grown_rooms" "grown_rooms" (defArgs s_grown_rooms) (defBody s_grown_rooms) (defScope s_grown_rooms) .none kV5 dc5 pm5 an5 cd5 ct5), sl5⟩) (c5 : PySem.W.codeIn K cd5 "grown_rooms" = true) (k5 : PySem.W.keepIn K (.ref f5) = true)
    (a6 : PySem.W.nsIn K mainGlobals "after_crowd" = some (some (.ref f6))) (l6 : K.lookup f6 = some ⟨oc6, od6, .func (PySem.W.fnOf "after_crowd" "after_crowd" (defArgs s_after_crowd) (defBody s_after_crowd) (defScope s_after_crowd) .none kV6 dc6 pm6 an6 cd6 ct6), sl6⟩) (c6 : PySem.W.codeIn K cd6 "after_crowd" = true) (k6 : PySem.W.keepIn K (.ref f6) = true)
    (a7 : PySem.W.nsIn K mainGlobals "crowd_sizes" = some (some (.ref f7))) (l7 : K.lookup f7 = some ⟨oc7, od7, .func (PySem.W.fnOf "crowd_sizes" "crowd_sizes" (defArgs s_crowd_sizes) (defBody s_crowd_sizes) (defScope s_crowd_sizes) .none kV7 dc7 pm7 an7 cd7 ct7), sl7⟩) (c7 : PySem.W.codeIn K cd7 "crowd_sizes" = true) (k7 : PySem.W.keepIn K (.ref f7) = true)
    (a8 : PySem.W.nsIn K mainGlobals "crowd_in_first" = some (some (.ref f8))) (l8 : K.lookup f8 = some ⟨oc8, od8, .func (PySem.W.fnOf "crowd_in_first" "crowd_in_first" (defArgs s_crowd_in_first) (defBody s_crowd_in_first) (defScope s_crowd_in_first) .none kV8 dc8 pm8 an8 cd8 ct8), sl8⟩) (c8 : PySem.W.codeIn K cd8 "crowd_in_first" = true) (k8 : PySem.W.keepIn K (.ref f8) = true)
    (a9 : PySem.W.nsIn K mainGlobals "_law_pot" = some (some (.ref f9))) (l9 : K.lookup f9 = some ⟨oc9, od9, .func (PySem.W.fnOf "_law_pot" "_law_pot" (defArgs s__law_pot) (defBody s__law_pot) (defScope s__law_pot) .none kV9 dc9 pm9 an9 cd9 ct9), sl9⟩) (c9 : PySem.W.codeIn K cd9 "_law_pot" = true) (k9 : PySem.W.keepIn K (.ref f9) = true)
    (a10 : PySem.W.nsIn K mainGlobals "_law_draw" = some (some (.ref f10))) (l10 : K.lookup f10 = some ⟨oc10, od10, .func (PySem.W.fnOf "_law_draw" "_law_draw" (defArgs s__law_draw) (defBody s__law_draw) (defScope s__law_draw) .none kV10 dc10 pm10 an10 cd10 ct10), sl10⟩) (c10 : PySem.W.codeIn K cd10 "_law_draw" = true) (k10 : PySem.W.keepIn K (.ref f10) = true)
    (a11 : PySem.W.nsIn K mainGlobals "_law_one_crowd" = some (some (.ref f11))) (l11 : K.lookup f11 = some ⟨oc11, od11, .func (PySem.W.fnOf "_law_one_crowd" "_law_one_crowd" (defArgs s__law_one_crowd) (defBody s__law_one_crowd) (defScope s__law_one_crowd) .none kV11 dc11 pm11 an11 cd11 ct11), sl11⟩) (c11 : PySem.W.codeIn K cd11 "_law_one_crowd" = true) (k11 : PySem.W.keepIn K (.ref f11) = true)
    (a12 : PySem.W.nsIn K mainGlobals "_law_lot" = some (some (.ref f12))) (l12 : K.lookup f12 = some ⟨oc12, od12, .func (PySem.W.fnOf "_law_lot" "_law_lot" (defArgs s__law_lot) (defBody s__law_lot) (defScope s__law_lot) .none kV12 dc12 pm12 an12 cd12 ct12), sl12⟩) (c12 : PySem.W.codeIn K cd12 "_law_lot" = true) (k12 : PySem.W.keepIn K (.ref f12) = true)
    (a13 : PySem.W.nsIn K mainGlobals "_law_rooms_at" = some (some (.ref f13))) (l13 : K.lookup f13 = some ⟨oc13, od13, .func (PySem.W.fnOf "_law_rooms_at" "_law_rooms_at" (defArgs s__law_rooms_at) (defBody s__law_rooms_at) (defScope s__law_rooms_at) .none kV13 dc13 pm13 an13 cd13 ct13), sl13⟩) (c13 : PySem.W.codeIn K cd13 "_law_rooms_at" = true) (k13 : PySem.W.keepIn K (.ref f13) = true)
    (a14 : PySem.W.nsIn K mainGlobals "_law_sound" = some (some (.ref f14))) (l14 : K.lookup f14 = some ⟨oc14, od14, .func (PySem.W.fnOf "_law_sound" "_law_sound" (defArgs s__law_sound) (defBody s__law_sound) (defScope s__law_sound) .none kV14 dc14 pm14 an14 cd14 ct14), sl14⟩) (c14 : PySem.W.codeIn K cd14 "_law_sound" = true) (k14 : PySem.W.keepIn K (.ref f14) = true)
    (a15 : PySem.W.nsIn K mainGlobals "_law_no_fewer" = some (some (.ref f15))) (l15 : K.lookup f15 = some ⟨oc15, od15, .func (PySem.W.fnOf "_law_no_fewer" "_law_no_fewer" (defArgs s__law_no_fewer) (defBody s__law_no_fewer) (defScope s__law_no_fewer) .none kV15 dc15 pm15 an15 cd15 ct15), sl15⟩) (c15 : PySem.W.codeIn K cd15 "_law_no_fewer" = true) (k15 : PySem.W.keepIn K (.ref f15) = true)
    (a16 : PySem.W.nsIn K mainGlobals "_law_right" = some (some (.ref f16))) (l16 : K.lookup f16 = some ⟨oc16, od16, .func (PySem.W.fnOf "_law_right" "_law_right" (defArgs s__law_right) (defBody s__law_right) (defScope s__law_right) .none kV16 dc16 pm16 an16 cd16 ct16), sl16⟩) (c16 : PySem.W.codeIn K cd16 "_law_right" = true) (k16 : PySem.W.keepIn K (.ref f16) = true)
    (a17 : PySem.W.nsIn K mainGlobals "law" = some (some (.ref f17))) (l17 : K.lookup f17 = some ⟨oc17, od17, .func (PySem.W.fnOf "law" "law" (defArgs s_law) (defBody s_law) (defScope s_law) .none kV17 dc17 pm17 an17 cd17 ct17), sl17⟩) (c17 : PySem.W.codeIn K cd17 "law" = true) (k17 : PySem.W.keepIn K (.ref f17) = true)
    (z1 : PySem.W.nsIn K mainGlobals "len" = some none) (z2 : PySem.W.nsIn K mainGlobals "range" = some none) (z3 : PySem.W.nsIn K mainGlobals "enumerate" = some none) (z4 : PySem.W.nsIn K mainGlobals "sorted" = some none) (z5 : PySem.W.nsIn K mainGlobals "sum" = some none) (z6 : PySem.W.nsIn K mainGlobals "min" = some none) (z7 : PySem.W.nsIn K mainGlobals "max" = some none) (z8 : PySem.W.nsIn K mainGlobals "isinstance" = some none) (z9 : PySem.W.nsIn K mainGlobals "zip" = some none) (z10 : PySem.W.nsIn K mainGlobals "list" = some none) (z11 : PySem.W.nsIn K mainGlobals "tuple" = some none) (z12 : PySem.W.nsIn K mainGlobals "int" = some none) (z13 : PySem.W.nsIn K mainGlobals "bool" = some none) (z14 : PySem.W.nsIn K mainGlobals "str" = some none) (z15 : PySem.W.nsIn K mainGlobals "abs" = some none) (z16 : PySem.W.nsIn K mainGlobals "repr" = some none) (z17 : PySem.W.nsIn K mainGlobals "dict" = some none) (z18 : PySem.W.nsIn K mainGlobals "any" = some none) (z19 : PySem.W.nsIn K mainGlobals "all" = some none) (z20 : PySem.W.nsIn K mainGlobals "set" = some none) (z21 : PySem.W.nsIn K mainGlobals "reversed" = some none) (z22 : PySem.W.nsIn K mainGlobals "ValueError" = some none) (z23 : PySem.W.nsIn K mainGlobals "divmod" = some none) :
    ∃ fd : FuncData, (∀ (s : Shared) (v : Value), BindsTo s fd ⟨[v], []⟩ [("script", v)]) ∧ ∀ base : Heap, K.In base → base.Ns mainGlobals mg → FnOk l.prog w K mg base CX0 8 fa fd ["script"] (sp_law K) := by
  obtain rfl : f17 = fa := by
    have e := (PySem.W.mg_of X G a17).symm.trans hfa
    injection e with e
    injection e
  have B : Bi mg := ⟨PySem.W.mg_none_of X G z1, PySem.W.mg_none_of X G z2, PySem.W.mg_none_of X G z3, PySem.W.mg_none_of X G z4, PySem.W.mg_none_of X G z5, PySem.W.mg_none_of X G z6, PySem.W.mg_none_of X G z7, PySem.W.mg_none_of X G z8, PySem.W.mg_none_of X G z9, PySem.W.mg_none_of X G z10, PySem.W.mg_none_of X G z11, PySem.W.mg_none_of X G z12, PySem.W.mg_none_of X G z13, PySem.W.mg_none_of X G z14, PySem.W.mg_none_of X G z15, PySem.W.mg_none_of X G z16, PySem.W.mg_none_of X G z17, PySem.W.mg_none_of X G z18, PySem.W.mg_none_of X G z19, PySem.W.mg_none_of X G z20, PySem.W.mg_none_of X G z21, PySem.W.mg_none_of X G z22, PySem.W.mg_none_of X G z23⟩
  have A1 : At K mg "check_first" P_check_first s_check_first := .mk' X G a1 l1 c1 k1 fun _ _ _ _ _ _ us hl => match us, hl with | [_], _ => rfl
  have A2 : At K mg "is_crowd" P_is_crowd s_is_crowd := .mk' X G a2 l2 c2 k2 fun _ _ _ _ _ _ us hl => match us, hl with | [_, _], _ => rfl
  have A3 : At K mg "check_crowds" P_check_crowds s_check_crowds := .mk' X G a3 l3 c3 k3 fun _ _ _ _ _ _ us hl => match us, hl with | [_], _ => rfl
  have A4 : At K mg "places" P_places s_places := .mk' X G a4 l4 c4 k4 fun _ _ _ _ _ _ us hl => match us, hl with | [_, _], _ => rfl
  have A5 : At K mg "grown_rooms" P_grown_rooms s_grown_rooms := .mk' X G a5 l5 c5 k5 fun _ _ _ _ _ _ us hl => match us, hl with | [_, _, _, _], _ => rfl
  have A6 : At K mg "after_crowd" P_after_crowd s_after_crowd := .mk' X G a6 l6 c6 k6 fun _ _ _ _ _ _ us hl => match us, hl with | [_, _, _], _ => rfl
  have A7 : At K mg "crowd_sizes" P_crowd_sizes s_crowd_sizes := .mk' X G a7 l7 c7 k7 fun _ _ _ _ _ _ us hl => match us, hl with | [_], _ => rfl
  have A8 : At K mg "crowd_in_first" P_crowd_in_first s_crowd_in_first := .mk' X G a8 l8 c8 k8 fun _ _ _ _ _ _ us hl => match us, hl with | [_, _], _ => rfl
  have A9 : At K mg "_law_pot" P__law_pot s__law_pot := .mk' X G a9 l9 c9 k9 fun _ _ _ _ _ _ us hl => match us, hl with | [_, _], _ => rfl
  have A10 : At K mg "_law_draw" P__law_draw s__law_draw := .mk' X G a10 l10 c10 k10 fun _ _ _ _ _ _ us hl => match us, hl with | [_, _], _ => rfl
  have A11 : At K mg "_law_one_crowd" P__law_one_crowd s__law_one_crowd := .mk' X G a11 l11 c11 k11 fun _ _ _ _ _ _ us hl => match us, hl with | [_, _, _], _ => rfl
  have A12 : At K mg "_law_lot" P__law_lot s__law_lot := .mk' X G a12 l12 c12 k12 fun _ _ _ _ _ _ us hl => match us, hl with | [_, _, _], _ => rfl
  have A13 : At K mg "_law_rooms_at" P__law_rooms_at s__law_rooms_at := .mk' X G a13 l13 c13 k13 fun _ _ _ _ _ _ us hl => match us, hl with | [_, _], _ => rfl
  have A14 : At K mg "_law_sound" P__law_sound s__law_sound := .mk' X G a14 l14 c14 k14 fun _ _ _ _ _ _ us hl => match us, hl with | [_], _ => rfl
  have A15 : At K mg "_law_no_fewer" P__law_no_fewer s__law_no_fewer := .mk' X G a15 l15 c15 k15 fun _ _ _ _ _ _ us hl => match us, hl with | [_, _, _], _ => rfl
  have A16 : At K mg "_law_right" P__law_right s__law_right := .mk' X G a16 l16 c16 k16 fun _ _ _ _ _ _ us hl => match us, hl with | [_], _ => rfl
  have A17 : At K mg "law" P_law s_law := .mk' X G a17 l17 c17 k17 fun _ _ _ _ _ _ us hl => match us, hl with | [_], _ => rfl
  refine ⟨PySem.W.fnOf "law" "law" (defArgs s_law) (defBody s_law) (defScope s_law) .none kV17 dc17 pm17 an17 cd17 ct17, fun s v => .of_eq rfl, fun base _ _ => ?_⟩
  have D_check_first := ok_check_first (P := l.prog) (w := w) (base := base) A1 
  have D_is_crowd := ok_is_crowd (P := l.prog) (w := w) (base := base) A2 
  have D_check_crowds := ok_check_crowds (P := l.prog) (w := w) (base := base) A3 B D_is_crowd
  have D_places := ok_places (P := l.prog) (w := w) (base := base) A4 B
  have D_grown_rooms := ok_grown_rooms (P := l.prog) (w := w) (base := base) A5 B D_places
  have D_after_crowd := ok_after_crowd (P := l.prog) (w := w) (base := base) A6 B D_places D_grown_rooms
  have D_crowd_sizes := ok_crowd_sizes (P := l.prog) (w := w) (base := base) A7 B D_check_crowds D_after_crowd
  have D_crowd_in_first := ok_crowd_in_first (P := l.prog) (w := w) (base := base) A8 B D_crowd_sizes D_check_first
  have D__law_pot := ok__law_pot (P := l.prog) (w := w) (base := base) A9 B
  have D__law_draw := ok__law_draw (P := l.prog) (w := w) (base := base) A10 B
  have D__law_one_crowd := ok__law_one_crowd (P := l.prog) (w := w) (base := base) A11 B D__law_draw
  have D__law_lot := ok__law_lot (P := l.prog) (w := w) (base := base) A12 B D__law_draw D__law_one_crowd
  have D__law_rooms_at := ok__law_rooms_at (P := l.prog) (w := w) (base := base) A13 B D__law_draw
  have D__law_sound := ok__law_sound (P := l.prog) (w := w) (base := base) A14 B D_crowd_sizes
  have D__law_no_fewer := ok__law_no_fewer (P := l.prog) (w := w) (base := base) A15 B D__law_rooms_at D_crowd_sizes D_crowd_in_first
  have D__law_right := ok__law_right (P := l.prog) (w := w) (base := base) A16 B D__law_draw D__law_one_crowd D__law_lot D__law_sound D__law_no_fewer
  have D_law := ok_law (P := l.prog) (w := w) (base := base) A17 B D__law_pot D__law_right
  exact D_law.at hfa l17
end El
open PySem PySem.W PyProof.Rows
set_option maxRecDepth 100000 in
set_option maxHeartbeats 0 in
theorem PySem.Challenge.cw_elderinn_k26_whole_more_patience_fuller_holds : PySem.Challenge.rw_elderinn_k26_whole_more_patience_fuller.Holds := by
  w_on; o_law; k_head; (case hw => w_witness2)
  k_fill
  refine L2.walk_of (l := PySem.Challenge.rw_elderinn_k26_whole_more_patience_fuller) (n := 63) (k := 8) (x := "script") (CX := fun _ => L2.CX0) (sp := fun w => El.sp_law _) rfl (by decide) rfl ⟨rfl, by decide, by decide⟩ (fun w h Y => PySem.W.kIn_of Y) ?F (fun _ _ a ns hl _ hS => ⟨a, ns, rfl, hS, hl, fun _ => rfl⟩) (fun _ _ _ _ _ h => h)
  case F =>
    intro w mg fa h KX G hmg
    refine' El.all_mk KX G hmg ?a1 ?l1 ?c1 ?k1 ?a2 ?l2 ?c2 ?k2 ?a3 ?l3 ?c3 ?k3 ?a4 ?l4 ?c4 ?k4 ?a5 ?l5 ?c5 ?k5 ?a6 ?l6 ?c6 ?k6 ?a7 ?l7 ?c7 ?k7 ?a8 ?l8 ?c8 ?k8 ?a9 ?l9 ?c9 ?k9 ?a10 ?l10 ?c10 ?k10 ?a11 ?l11 ?c11 ?k11 ?a12 ?l12 ?c12 ?k12 ?a13 ?l13 ?c13 ?k13 ?a14 ?l14 ?c14 ?k14 ?a15 ?l15 ?c15 ?k15 ?a16 ?l16 ?c16 ?k16 ?a17 ?l17 ?c17 ?k17 ?z1 ?z2 ?z3 ?z4 ?z5 ?z6 ?z7 ?z8 ?z9 ?z10 ?z11 ?z12 ?z13 ?z14 ?z15 ?z16 ?z17 ?z18 ?z19 ?z20 ?z21 ?z22 ?z23
    (case a1 => k_is)
    (case l1 => k_is)
    (case c1 => k_is)
    (case k1 => k_is)
    (case a2 => k_is)
    (case l2 => k_is)
    (case c2 => k_is)
    (case k2 => k_is)
    (case a3 => k_is)
    (case l3 => k_is)
    (case c3 => k_is)
    (case k3 => k_is)
    (case a4 => k_is)
    (case l4 => k_is)
    (case c4 => k_is)
    (case k4 => k_is)
    (case a5 => k_is)
    (case l5 => k_is)
    (case c5 => k_is)
    (case k5 => k_is)
    (case a6 => k_is)
    (case l6 => k_is)
    (case c6 => k_is)
    (case k6 => k_is)
    (case a7 => k_is)
    (case l7 => k_is)
    (case c7 => k_is)
    (case k7 => k_is)
    (case a8 => k_is)
    (case l8 => k_is)
    (case c8 => k_is)
    (case k8 => k_is)
    (case a9 => k_is)
    (case l9 => k_is)
    (case c9 => k_is)
    (case k9 => k_is)
    (case a10 => k_is)
    (case l10 => k_is)
    (case c10 => k_is)
    (case k10 => k_is)
    (case a11 => k_is)
    (case l11 => k_is)
    (case c11 => k_is)
    (case k11 => k_is)
    (case a12 => k_is)
    (case l12 => k_is)
    (case c12 => k_is)
    (case k12 => k_is)
    (case a13 => k_is)
    (case l13 => k_is)
    (case c13 => k_is)
    (case k13 => k_is)
    (case a14 => k_is)
    (case l14 => k_is)
    (case c14 => k_is)
    (case k14 => k_is)
    (case a15 => k_is)
    (case l15 => k_is)
    (case c15 => k_is)
    (case k15 => k_is)
    (case a16 => k_is)
    (case l16 => k_is)
    (case c16 => k_is)
    (case k16 => k_is)
    (case a17 => k_is)
    (case l17 => k_is)
    (case c17 => k_is)
    (case k17 => k_is)
    (case z1 => k_is)
    (case z2 => k_is)
    (case z3 => k_is)
    (case z4 => k_is)
    (case z5 => k_is)
    (case z6 => k_is)
    (case z7 => k_is)
    (case z8 => k_is)
    (case z9 => k_is)
    (case z10 => k_is)
    (case z11 => k_is)
    (case z12 => k_is)
    (case z13 => k_is)
    (case z14 => k_is)
    (case z15 => k_is)
    (case z16 => k_is)
    (case z17 => k_is)
    (case z18 => k_is)
    (case z19 => k_is)
    (case z20 => k_is)
    (case z21 => k_is)
    (case z22 => k_is)
    (case z23 => k_is)
