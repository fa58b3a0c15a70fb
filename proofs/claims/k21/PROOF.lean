import PyProof.Rows.All
import Wide.All
import OpenK.AllK
import Wide.FinOn
import HandS.ForMost
import HandS.ForExc
import HandS.Wide
import HandS.SortKw
import HandS.SortRule
import HandS.SortInts
import HandS.Style
import HandS.IsInst
import HandS.Conv
import HandS.Walk
import HandS.Flow
import HandS.More
import HandS.Defaults
import HandS.RaiseMore
import HandS.Remove
import HandS.Star
import HandS.Steps
import HandS.ListItems
import HandS.SetFor
import HandS.Star
import HandS.Strs
import HandS.Wide
import HandS.WideBits
import HandS.Zip
import KE.DatumOrd
import PySem.Challenge.RW_elderinn_k21_rooms_of_great_crowds
set_option Elab.async false
set_option linter.all false
set_option maxRecDepth 100000
set_option maxHeartbeats 8000000
namespace El
/-! ### the rule by age, in plain lists -/
def place : List (List Int) → Int → Int → List (List Int)
  | [], a, _ => [[a]]
  | r :: rs, a, p => if (r.length : Int) ≤ p then (r ++ [a]) :: rs else r :: place rs a p
def firstB : List (List Int) → Int → Nat
  | [], _ => 0
  | r :: rs, p => if (r.length : Int) ≤ p then 0 else firstB rs p + 1
theorem firstB_le : ∀ (rs : List (List Int)) (p : Int), firstB rs p ≤ rs.length
  | [], _ => Nat.le_refl _
  | r :: rs, p => by
    unfold firstB
    split
    · exact Nat.zero_le _
    · exact Nat.succ_le_succ (firstB_le rs p)
theorem firstB_out : ∀ (rs : List (List Int)) (p : Int) (i : Nat) (r : List Int), i < firstB rs p → rs[i]? = some r → p < (r.length : Int)
  | [], _, _, _, h, _ => absurd h (Nat.not_lt_zero _)
  | s :: rs, p, i, r, h, e => by
    unfold firstB at h
    split at h
    · exact absurd h (Nat.not_lt_zero _)
    · rename_i hn
      cases i with
      | zero =>
        have e' : s = r := Option.some.inj e
        subst e'
        omega
      | succ i => exact firstB_out rs p i r (Nat.lt_of_succ_lt_succ h) (by simpa using e)
theorem firstB_in : ∀ (rs : List (List Int)) (p : Int), firstB rs p < rs.length → ∃ r, rs[firstB rs p]? = some r ∧ (r.length : Int) ≤ p
  | [], _, h => absurd h (Nat.not_lt_zero _)
  | s :: rs, p, h => by
    unfold firstB at h ⊢
    split
    · rename_i hn
      exact ⟨s, rfl, hn⟩
    · rename_i hn
      rw [if_neg hn] at h
      obtain ⟨r, e, q⟩ := firstB_in rs p (Nat.lt_of_succ_lt_succ h)
      exact ⟨r, by simpa using e, q⟩
theorem firstB_is : ∀ (rs : List (List Int)) (p : Int) (i : Nat), i ≤ rs.length → (∀ j r, j < i → rs[j]? = some r → p < (r.length : Int)) → (∀ r, rs[i]? = some r → (r.length : Int) ≤ p) → firstB rs p = i
  | [], _, i, h, _, _ => by
    have : i = 0 := Nat.le_zero.mp h
    subst this
    rfl
  | s :: rs, p, 0, _, _, h2 => by
    unfold firstB
    rw [if_pos (h2 s rfl)]
  | s :: rs, p, i + 1, h, h1, h2 => by
    have h0 := h1 0 s (Nat.succ_pos _) rfl
    unfold firstB
    rw [if_neg (by omega), firstB_is rs p i (Nat.le_of_succ_le_succ h) (fun j r hj e => h1 (j + 1) r (Nat.succ_lt_succ hj) (by simpa using e)) fun r e => h2 r (by simpa using e)]
theorem place_new : ∀ (rs : List (List Int)) (a p : Int), firstB rs p = rs.length → place rs a p = rs ++ [[a]]
  | [], _, _, _ => rfl
  | r :: rs, a, p, h => by
    unfold firstB at h
    unfold place
    split at h
    · exact absurd h (by rw [List.length_cons]; omega)
    · rename_i hn
      rw [if_neg hn, place_new rs a p (by rw [List.length_cons] at h; omega)]
      rfl
theorem place_at : ∀ (rs : List (List Int)) (a p : Int) (r : List Int), rs[firstB rs p]? = some r → place rs a p = rs.set (firstB rs p) (r ++ [a])
  | [], _, _, _, h => by simp at h
  | s :: rs, a, p, r, h => by
    unfold firstB at h ⊢
    unfold place
    split
    · rename_i hn
      rw [if_pos hn] at h
      have e : s = r := Option.some.inj h
      subst e
      rfl
    · rename_i hn
      rw [if_neg hn] at h
      rw [place_at rs a p r (by simpa using h)]
      rfl
theorem place_len (rs : List (List Int)) (a p : Int) : (place rs a p).length = if firstB rs p = rs.length then rs.length + 1 else rs.length := by
  by_cases h : firstB rs p = rs.length
  · rw [if_pos h, place_new rs a p h, List.length_append]
    rfl
  · have hl := firstB_le rs p
    obtain ⟨r, e, _⟩ := firstB_in rs p (by omega)
    rw [if_neg h, place_at rs a p r e, List.length_set]
/-- all in order -/
def settleL (gs : List (Int × Int)) : List (List Int) := gs.foldl (fun rs g => place rs g.1 g.2) []
theorem settleL_snoc (gs : List (Int × Int)) (g : Int × Int) : settleL (gs ++ [g]) = place (settleL gs) g.1 g.2 := by
  unfold settleL
  rw [List.foldl_append]
  rfl
theorem settleL_take {gs : List (Int × Int)} {i : Nat} {g : Int × Int} (h : gs[i]? = some g) : settleL (gs.take (i + 1)) = place (settleL (gs.take i)) g.1 g.2 := by
  rw [List.take_add_one, h]
  exact settleL_snoc _ _
theorem place_count (rs : List (List Int)) (a p : Int) : (place rs a p).flatten.length = rs.flatten.length + 1 := by
  induction rs with
  | nil => rfl
  | cons r rs ih =>
    unfold place
    split
    · simp only [List.flatten_cons, List.length_append, List.length_cons, List.length_nil]
      omega
    · simp only [List.flatten_cons, List.length_append]
      omega
theorem settleL_count (gs : List (Int × Int)) : (settleL gs).flatten.length = gs.length := by
  suffices h : ∀ (gs : List (Int × Int)) (rs : List (List Int)), (gs.foldl (fun rs g => place rs g.1 g.2) rs).flatten.length = rs.flatten.length + gs.length by
    have q := h gs []
    rw [List.flatten_nil, List.length_nil, Nat.zero_add] at q
    exact q
  intro gs
  induction gs with
  | nil => intro rs; rfl
  | cons g gs ih =>
    intro rs
    rw [List.foldl_cons, ih, place_count, List.length_cons]
    omega
theorem place_ne (rs : List (List Int)) (a p : Int) (h : ∀ r ∈ rs, r ≠ []) : ∀ r ∈ place rs a p, r ≠ [] := by
  induction rs with
  | nil =>
    intro r hr
    rw [List.mem_singleton.mp hr]
    exact List.cons_ne_nil _ _
  | cons s rs ih =>
    unfold place
    split
    · intro r hr
      rcases List.mem_cons.mp hr with e | hr
      · rw [e]
        simp
      · exact h r (List.mem_cons_of_mem _ hr)
    · intro r hr
      rcases List.mem_cons.mp hr with e | hr
      · rw [e]
        exact h s List.mem_cons_self
      · exact ih (fun r hr => h r (List.mem_cons_of_mem _ hr)) r hr
theorem settleL_ne (gs : List (Int × Int)) : ∀ r ∈ settleL gs, r ≠ [] := by
  suffices h : ∀ (gs : List (Int × Int)) (rs : List (List Int)), (∀ r ∈ rs, r ≠ []) → ∀ r ∈ gs.foldl (fun rs g => place rs g.1 g.2) rs, r ≠ [] from h gs [] (fun r hr => absurd hr (by simp))
  intro gs
  induction gs with
  | nil => intro rs h; exact h
  | cons g gs ih =>
    intro rs h
    rw [List.foldl_cons]
    exact ih _ (place_ne rs _ _ h)
theorem len_le_flat : ∀ (rs : List (List Int)), (∀ r ∈ rs, r ≠ []) → rs.length ≤ rs.flatten.length
  | [], _ => Nat.le_refl _
  | r :: rs, h => by
    have h1 := h r List.mem_cons_self
    have h2 := len_le_flat rs fun r hr => h r (List.mem_cons_of_mem _ hr)
    have h3 : 0 < r.length := List.length_pos_iff.mpr h1
    rw [List.flatten_cons, List.length_append, List.length_cons]
    omega
theorem room_le_flat : ∀ (rs : List (List Int)) (r : List Int), r ∈ rs → r.length ≤ rs.flatten.length
  | s :: rs, r, h => by
    rw [List.flatten_cons, List.length_append]
    rcases List.mem_cons.mp h with e | h
    · rw [e]
      omega
    · have := room_le_flat rs r h
      omega
theorem settleL_len (gs : List (Int × Int)) : (settleL gs).length ≤ gs.length := by
  rw [← settleL_count gs]
  exact len_le_flat _ (settleL_ne gs)
theorem settleL_room {gs : List (Int × Int)} {r : List Int} (h : r ∈ settleL gs) : r.length ≤ gs.length := by
  rw [← settleL_count gs]
  exact room_le_flat _ _ h
/-- sizes never rise -/
def Falls (rs : List (List Int)) : Prop := rs.Pairwise fun r s => s.length ≤ r.length
theorem place_mem {rs : List (List Int)} {a p : Int} {r : List Int} (h : r ∈ place rs a p) : r ∈ rs ∨ (∃ s ∈ rs, r = s ++ [a] ∧ (s.length : Int) ≤ p) ∨ r = [a] := by
  induction rs with
  | nil => exact .inr (.inr (List.mem_singleton.mp h))
  | cons s rs ih =>
    unfold place at h
    split at h
    · rename_i hn
      rcases List.mem_cons.mp h with e | h
      · exact .inr (.inl ⟨s, List.mem_cons_self, e, hn⟩)
      · exact .inl (List.mem_cons_of_mem _ h)
    · rcases List.mem_cons.mp h with e | h
      · rw [e]
        exact .inl List.mem_cons_self
      · rcases ih h with q | ⟨t, ht, q⟩ | q
        · exact .inl (List.mem_cons_of_mem _ q)
        · exact .inr (.inl ⟨t, List.mem_cons_of_mem _ ht, q⟩)
        · exact .inr (.inr q)
theorem place_falls (rs : List (List Int)) (a p : Int) (hp : 0 ≤ p) (h : Falls rs) : Falls (place rs a p) := by
  induction rs with
  | nil => exact List.pairwise_singleton _ _
  | cons s rs ih =>
    obtain ⟨h1, h2⟩ := List.pairwise_cons.mp h
    unfold place
    split
    · refine List.pairwise_cons.mpr ⟨fun r hr => ?_, h2⟩
      have := h1 r hr
      rw [List.length_append]
      omega
    · rename_i hn
      refine List.pairwise_cons.mpr ⟨fun r hr => ?_, ih h2⟩
      rcases place_mem hr with q | ⟨t, ht, q, q2⟩ | q
      · exact h1 r q
      · rw [q, List.length_append, List.length_singleton]
        omega
      · rw [q, List.length_singleton]
        omega
theorem settleL_falls (gs : List (Int × Int)) (h : ∀ g ∈ gs, 0 ≤ g.2) : Falls (settleL gs) := by
  suffices q : ∀ (gs : List (Int × Int)) (rs : List (List Int)), (∀ g ∈ gs, 0 ≤ g.2) → Falls rs → Falls (gs.foldl (fun rs g => place rs g.1 g.2) rs) from q gs [] h List.Pairwise.nil
  intro gs
  induction gs with
  | nil => intro rs _ hr; exact hr
  | cons g gs ih =>
    intro rs hg hr
    rw [List.foldl_cons]
    exact ih _ (fun x hx => hg x (List.mem_cons_of_mem _ hx)) (place_falls rs _ _ (hg g List.mem_cons_self) hr)
/-! ### from the eldest on -/
def byAge (gs : List (Int × Int)) : List (Int × Int) := gs.mergeSort fun g h => decide (h.1 ≤ g.1)
theorem byAge_perm (gs : List (Int × Int)) : (byAge gs).Perm gs := List.mergeSort_perm _ _
theorem byAge_sorted (gs : List (Int × Int)) : (byAge gs).Pairwise fun g h => h.1 ≤ g.1 := by
  have q := List.pairwise_mergeSort (le := fun (g h : Int × Int) => decide (h.1 ≤ g.1)) (fun a b c h1 h2 => by
    have h1 := of_decide_eq_true h1
    have h2 := of_decide_eq_true h2
    exact decide_eq_true (by omega)) (fun a b => by
    by_cases h : b.1 ≤ a.1
    · simp [h]
    · have : a.1 ≤ b.1 := by omega
      simp [this]) gs
  exact q.imp fun h => of_decide_eq_true h
theorem byAge_length (gs : List (Int × Int)) : (byAge gs).length = gs.length := (byAge_perm gs).length_eq
theorem sorted_uniq {α : Type} (k : α → Int) : ∀ {l m : List α}, l.Perm m → (l.map k).Nodup → l.Pairwise (fun g h => k h ≤ k g) → m.Pairwise (fun g h => k h ≤ k g) → l = m
  | [], m, p, _, _, _ => by rw [List.nil_perm.mp p]
  | x :: l, [], p, _, _, _ => absurd p.length_eq (by simp)
  | x :: l, y :: m, p, nd, h1, h2 => by
    have nd' : (k x :: l.map k).Nodup := nd
    obtain ⟨n1, n2⟩ := List.nodup_cons.mp nd'
    obtain ⟨a1, a2⟩ := List.pairwise_cons.mp h1
    obtain ⟨b1, b2⟩ := List.pairwise_cons.mp h2
    have e : x = y := by
      rcases List.mem_cons.mp (p.mem_iff.mp List.mem_cons_self) with e | hx
      · exact e
      · have hy : y ∈ x :: l := p.mem_iff.mpr List.mem_cons_self
        rcases List.mem_cons.mp hy with e | hy
        · exact e.symm
        · have c1 := b1 x hx
          have c2 := a1 y hy
          have c3 : k x = k y := by omega
          exact absurd (List.mem_map.mpr ⟨y, hy, c3.symm⟩) n1
    subst e
    rw [sorted_uniq k (List.Perm.cons_inv p) n2 a2 b2]
def settle (gs : List (Int × Int)) : List (List Int) := settleL (byAge gs)
/-- guests that there can be -/
structure Fit (gs : List (Int × Int)) : Prop where
  nd : (gs.map (·.1)).Nodup
  pos : ∀ g ∈ gs, 0 ≤ g.2
theorem Fit.perm {gs hs : List (Int × Int)} (f : Fit gs) (p : hs.Perm gs) : Fit hs := ⟨((p.map (·.1)).nodup_iff).mpr f.nd, fun g hg => f.pos g (p.mem_iff.mp hg)⟩
theorem Fit.byAge {gs : List (Int × Int)} (f : Fit gs) : Fit (byAge gs) := f.perm (byAge_perm gs)
theorem byAge_of {gs hs : List (Int × Int)} (f : Fit gs) (p : hs.Perm gs) (h : hs.Pairwise fun g h => h.1 ≤ g.1) : hs = byAge gs :=
  sorted_uniq (·.1) (p.trans (byAge_perm gs).symm) (f.perm p).nd h (byAge_sorted gs)
theorem byAge_congr {gs hs : List (Int × Int)} (f : Fit gs) (p : hs.Perm gs) : byAge hs = byAge gs :=
  byAge_of f ((byAge_perm hs).trans p) (byAge_sorted hs)
theorem ages_of {gs : List (Int × Int)} (f : Fit gs) {ns : List Int} (p : ns.Perm (gs.map (·.1))) (h : ns.Pairwise (· ≥ ·)) : ns = (byAge gs).map (·.1) := by
  refine sorted_uniq (fun x : Int => x) (p.trans ((byAge_perm gs).map (·.1)).symm) ?_ (h.imp fun q => q) ?_
  · rw [List.map_id']
    exact (p.nodup_iff).mpr f.nd
  · rw [List.pairwise_map]
    exact byAge_sorted gs
theorem settle_congr {gs hs : List (Int × Int)} (f : Fit gs) (p : hs.Perm gs) : settle hs = settle gs := by
  unfold settle
  rw [byAge_congr f p]
end El
namespace El
/-! ### who has more elders than they bear -/
def down (ns : List Int) : List Int := ns.mergeSort fun a b => decide (b ≤ a)
theorem down_perm (ns : List Int) : (down ns).Perm ns := List.mergeSort_perm _ _
theorem down_sorted (ns : List Int) : (down ns).Pairwise (· ≥ ·) := by
  have q := List.pairwise_mergeSort (le := fun (g h : Int) => decide (h ≤ g)) (fun a b c h1 h2 => by
    have h1 := of_decide_eq_true h1
    have h2 := of_decide_eq_true h2
    exact decide_eq_true (by omega)) (fun a b => by
    by_cases h : b ≤ a
    · simp [h]
    · have : a ≤ b := by omega
      simp [this]) ns
  exact q.imp fun h => of_decide_eq_true h
theorem desc_uniq : ∀ {l m : List Int}, l.Perm m → l.Pairwise (· ≥ ·) → m.Pairwise (· ≥ ·) → l = m
  | [], m, p, _, _ => by rw [List.nil_perm.mp p]
  | x :: l, [], p, _, _ => absurd p.length_eq (by simp)
  | x :: l, y :: m, p, h1, h2 => by
    obtain ⟨a1, a2⟩ := List.pairwise_cons.mp h1
    obtain ⟨b1, b2⟩ := List.pairwise_cons.mp h2
    have e : x = y := by
      rcases List.mem_cons.mp (p.mem_iff.mp List.mem_cons_self) with e | hx
      · exact e
      · have hy : y ∈ x :: l := p.mem_iff.mpr List.mem_cons_self
        rcases List.mem_cons.mp hy with e | hy
        · exact e.symm
        · have c1 := b1 x hx
          have c2 := a1 y hy
          omega
    subst e
    rw [desc_uniq (List.Perm.cons_inv p) a2 b2]
theorem down_is {l ns : List Int} (p : l.Perm ns) (h : l.Pairwise (· ≥ ·)) : l = down ns := desc_uniq (p.trans (down_perm ns).symm) h (down_sorted ns)
def pof (gs : List (Int × Int)) (a : Int) : Int := match gs.find? fun g => decide (g.1 = a) with | some g => g.2 | none => 0
theorem pof_is : ∀ {gs : List (Int × Int)} {g : Int × Int}, (gs.map (·.1)).Nodup → g ∈ gs → pof gs g.1 = g.2
  | x :: gs, g, nd, h => by
    have nd' : (x.1 :: gs.map (·.1)).Nodup := nd
    obtain ⟨n1, n2⟩ := List.nodup_cons.mp nd'
    rcases List.mem_cons.mp h with e | h
    · subst e
      unfold pof
      rw [List.find?_cons_of_pos (by simp)]
    · have n : ¬ x.1 = g.1 := fun z => n1 (by rw [z]; exact List.mem_map.mpr ⟨g, h, rfl⟩)
      have := pof_is n2 h
      unfold pof at this ⊢
      rw [List.find?_cons_of_neg (by simpa using n)]
      exact this
def upIn (pf : Int → Int) : List Int → Nat → Option Int
  | [], _ => none
  | a :: l, i => if pf a < (i : Int) then some a else upIn pf l (i + 1)
theorem upIn_none {pf : Int → Int} : ∀ {l : List Int} {k : Nat}, (∀ (i : Nat) (a : Int), l[i]? = some a → ((i + k : Nat) : Int) ≤ pf a) → upIn pf l k = none
  | [], _, _ => rfl
  | a :: l, k, h => by
    unfold upIn
    have h0 := h 0 a rfl
    rw [if_neg (by omega)]
    exact upIn_none fun i b e => by
      have := h (i + 1) b (by simpa using e)
      omega
theorem upIn_at {pf : Int → Int} {l : List Int} {a : Int} : ∀ {i k : Nat}, l[i]? = some a → (∀ (j : Nat) (b : Int), j < i → l[j]? = some b → ((j + k : Nat) : Int) ≤ pf b) → pf a < ((i + k : Nat) : Int) → upIn pf l k = some a := by
  induction l with
  | nil => intro i k e; simp at e
  | cons x l ih =>
    intro i k e h1 h2
    unfold upIn
    cases i with
    | zero =>
      obtain rfl : x = a := Option.some.inj e
      rw [if_pos (by omega)]
    | succ i =>
      have h0 := h1 0 x (Nat.succ_pos _) rfl
      rw [if_neg (by omega)]
      exact ih (i := i) (by simpa using e) (fun j b hj e' => by
        have := h1 (j + 1) b (Nat.succ_lt_succ hj) (by simpa using e')
        omega) (by omega)
def eldUp (gs : List (Int × Int)) (ns : List Int) : Option Int := upIn (pof gs) (down ns) 0
def upsetOf (gs : List (Int × Int)) : List (List Int) → Nat → Option (Nat × Int)
  | [], _ => none
  | r :: rs, i => match eldUp gs r with | some a => some (i, a) | none => upsetOf gs rs (i + 1)
theorem upsetOf_none {gs : List (Int × Int)} : ∀ {rs : List (List Int)} {k : Nat}, (∀ r ∈ rs, eldUp gs r = none) → upsetOf gs rs k = none
  | [], _, _ => rfl
  | r :: rs, k, h => by
    unfold upsetOf
    rw [h r List.mem_cons_self]
    exact upsetOf_none fun s m => h s (List.mem_cons_of_mem _ m)
theorem upsetOf_at {gs : List (Int × Int)} {rs : List (List Int)} {r : List Int} {a : Int} : ∀ {i k : Nat}, rs[i]? = some r → (∀ (j : Nat) (s : List Int), j < i → rs[j]? = some s → eldUp gs s = none) → eldUp gs r = some a → upsetOf gs rs k = some (i + k, a) := by
  induction rs with
  | nil => intro i k e; simp at e
  | cons x rs ih =>
    intro i k e h1 h2
    unfold upsetOf
    cases i with
    | zero =>
      obtain rfl : x = r := Option.some.inj e
      rw [h2, Nat.zero_add]
    | succ i =>
      rw [h1 0 x (Nat.succ_pos _) rfl]
      have z := ih (i := i) (k := k + 1) (by simpa using e) (fun j b hj e' => h1 (j + 1) b (Nat.succ_lt_succ hj) (by simpa using e')) h2
      show upsetOf gs rs (k + 1) = _
      rw [z, show i + (k + 1) = i + 1 + k by omega]
/-! ### the rooms by age are in peace -/
def Fine (L : List (Int × Int)) (r : List Int) : Prop := r.Pairwise (· ≥ ·) ∧ ∀ (i : Nat) (a : Int), r[i]? = some a → ∃ g ∈ L, g.1 = a ∧ (i : Int) ≤ g.2
theorem Fine.mem {L : List (Int × Int)} {r : List Int} (h : Fine L r) {a : Int} (m : a ∈ r) : ∃ g ∈ L, g.1 = a := by
  obtain ⟨i, e⟩ := List.mem_iff_getElem?.mp m
  obtain ⟨g, h1, h2, _⟩ := h.2 i a e
  exact ⟨g, h1, h2⟩
theorem Fine.more {L M : List (Int × Int)} {r : List Int} (h : Fine L r) (k : ∀ g ∈ L, g ∈ M) : Fine M r := ⟨h.1, fun i a e => by
  obtain ⟨g, h1, h2⟩ := h.2 i a e
  exact ⟨g, k g h1, h2⟩⟩
theorem settleL_fine {L : List (Int × Int)} (hL : L.Pairwise fun g h => h.1 ≤ g.1) (hp : ∀ g ∈ L, 0 ≤ g.2) : ∀ i, i ≤ L.length → ∀ r ∈ settleL (L.take i), Fine (L.take i) r
  | 0, _, r, hr => by
    rw [List.take_zero] at hr
    exact absurd hr (List.not_mem_nil)
  | i + 1, hi, r, hr => by
    have ih := settleL_fine hL hp i (by omega)
    have eg : L[i]? = some L[i] := List.getElem?_eq_getElem hi
    generalize hg : L[i] = g at eg
    have hm : g ∈ L := List.mem_of_getElem? eg
    have hle : ∀ x ∈ L.take i, g.1 ≤ x.1 := by
      have e2 : L = L.take i ++ g :: L.drop (i + 1) := by
        have := List.getElem_cons_drop (as := L) (i := i) hi
        rw [hg] at this
        rw [this, List.take_append_drop]
      rw [e2] at hL
      exact fun x hx => (List.pairwise_append.mp hL).2.2 x hx g List.mem_cons_self
    have et : L.take (i + 1) = L.take i ++ [g] := by
      rw [List.take_add_one, eg]
      rfl
    rw [settleL_take eg] at hr
    rw [et]
    rcases place_mem hr with q | ⟨s, hs, e, hle2⟩ | q
    · exact (ih r q).more fun x hx => List.mem_append_left _ hx
    · have hF := ih s hs
      subst e
      refine ⟨?_, fun j a e => ?_⟩
      · rw [List.pairwise_append]
        refine ⟨hF.1, List.pairwise_singleton _ _, fun x hx y hy => ?_⟩
        rw [List.mem_singleton.mp hy]
        obtain ⟨z, hz, rfl⟩ := hF.mem hx
        exact hle z hz
      · by_cases hj : j < s.length
        · rw [List.getElem?_append_left hj] at e
          obtain ⟨z, h1, h2⟩ := hF.2 j a e
          exact ⟨z, List.mem_append_left _ h1, h2⟩
        · rw [List.getElem?_append_right (by omega)] at e
          have hj0 : j - s.length = 0 := by
            have := (List.getElem?_eq_some_iff.mp e).1
            rw [List.length_singleton] at this
            omega
          rw [hj0] at e
          obtain rfl : g.1 = a := Option.some.inj e
          exact ⟨g, List.mem_append_right _ (List.mem_singleton.mpr rfl), rfl, by omega⟩
    · subst q
      refine ⟨List.pairwise_singleton _ _, fun j a e => ?_⟩
      have hj0 : j = 0 := by
        have := (List.getElem?_eq_some_iff.mp e).1
        rw [List.length_singleton] at this
        omega
      subst hj0
      obtain rfl : g.1 = a := Option.some.inj e
      exact ⟨g, List.mem_append_right _ (List.mem_singleton.mpr rfl), rfl, hp g hm⟩
theorem settle_fine {gs : List (Int × Int)} (f : Fit gs) {r : List Int} (hr : r ∈ settle gs) : Fine gs r := by
  have h := settleL_fine (byAge_sorted gs) f.byAge.pos (byAge gs).length (Nat.le_refl _) r (by rw [List.take_length]; exact hr)
  rw [List.take_length] at h
  exact h.more fun g hg => (byAge_perm gs).mem_iff.mp hg
theorem settle_calm {gs : List (Int × Int)} (f : Fit gs) {r : List Int} (hr : r ∈ settle gs) : eldUp gs r = none := by
  obtain ⟨h1, h2⟩ := settle_fine f hr
  unfold eldUp
  rw [← down_is (List.Perm.refl r) h1]
  refine upIn_none fun i a e => ?_
  obtain ⟨g, hg, rfl, hl⟩ := h2 i a e
  rw [pof_is f.nd hg]
  exact hl
theorem place_perm : ∀ (rs : List (List Int)) (a p : Int), (place rs a p).flatten.Perm (a :: rs.flatten)
  | [], a, p => List.Perm.refl _
  | r :: rs, a, p => by
    unfold place
    split
    · rw [List.flatten_cons, List.flatten_cons, List.append_assoc]
      exact List.perm_middle
    · rw [List.flatten_cons, List.flatten_cons]
      exact ((place_perm rs a p).append_left r).trans List.perm_middle
theorem foldl_place_perm : ∀ (L : List (Int × Int)) (rs : List (List Int)), (L.foldl (fun rs g => place rs g.1 g.2) rs).flatten.Perm (L.map (·.1) ++ rs.flatten)
  | [], rs => List.Perm.refl _
  | g :: L, rs => by
    rw [List.foldl_cons]
    refine (foldl_place_perm L _).trans (((place_perm rs g.1 g.2).append_left _).trans ?_)
    rw [List.map_cons, List.cons_append]
    exact List.perm_middle
theorem settle_flat (gs : List (Int × Int)) : (settle gs).flatten.Perm (gs.map (·.1)) := by
  have h := foldl_place_perm (byAge gs) []
  rw [List.flatten_nil, List.append_nil] at h
  exact h.trans ((byAge_perm gs).map _)
/-! ### those behind the first j rooms -/
theorem take_place_lt : ∀ (rs : List (List Int)) (a p : Int) (j : Nat), firstB rs p < j → (place rs a p).take j = place (rs.take j) a p
  | _, _, _, 0, h => absurd h (Nat.not_lt_zero _)
  | [], a, p, j + 1, _ => by
    rw [List.take_nil]
    unfold place
    rw [List.take_succ_cons, List.take_nil]
  | r :: rs, a, p, j + 1, h => by
    unfold firstB at h
    rw [List.take_succ_cons]
    unfold place
    split at h
    · rename_i q
      rw [if_pos q, if_pos q, List.take_succ_cons]
    · rename_i q
      rw [if_neg q, if_neg q, List.take_succ_cons, take_place_lt rs a p j (by omega)]
theorem take_place_ge : ∀ (rs : List (List Int)) (a p : Int) (j : Nat), j ≤ firstB rs p → (place rs a p).take j = rs.take j
  | _, _, _, 0, _ => by rw [List.take_zero, List.take_zero]
  | [], a, p, j + 1, h => absurd h (Nat.not_succ_le_zero _)
  | r :: rs, a, p, j + 1, h => by
    unfold firstB at h
    unfold place
    split at h
    · exact absurd h (Nat.not_succ_le_zero _)
    · rename_i q
      rw [if_neg q, List.take_succ_cons, List.take_succ_cons, take_place_ge rs a p j (by omega)]
theorem drop_place_lt : ∀ (rs : List (List Int)) (a p : Int) (j : Nat), firstB rs p < j → (place rs a p).drop j = rs.drop j
  | _, _, _, 0, h => absurd h (Nat.not_lt_zero _)
  | [], a, p, j + 1, _ => by
    unfold place
    rw [List.drop_succ_cons, List.drop_nil, List.drop_nil]
  | r :: rs, a, p, j + 1, h => by
    unfold firstB at h
    unfold place
    split at h
    · rename_i q
      rw [if_pos q, List.drop_succ_cons, List.drop_succ_cons]
    · rename_i q
      rw [if_neg q, List.drop_succ_cons, List.drop_succ_cons, drop_place_lt rs a p j (by omega)]
theorem drop_place_ge : ∀ (rs : List (List Int)) (a p : Int) (j : Nat), j ≤ firstB rs p → (place rs a p).drop j = place (rs.drop j) a p
  | _, _, _, 0, _ => by rw [List.drop_zero, List.drop_zero]
  | [], a, p, j + 1, h => absurd h (Nat.not_succ_le_zero _)
  | r :: rs, a, p, j + 1, h => by
    unfold firstB at h
    split at h
    · exact absurd h (Nat.not_succ_le_zero _)
    · rename_i q
      rw [List.drop_succ_cons]
      show (if (r.length : Int) ≤ p then (r ++ [a]) :: rs else r :: place rs a p).drop (j + 1) = _
      rw [if_neg q, List.drop_succ_cons, drop_place_ge rs a p j (by omega)]
def kept (j : Nat) : List (List Int) → List (Int × Int) → List (Int × Int)
  | _, [] => []
  | rs, g :: L => if firstB rs g.2 < j then g :: kept j (place rs g.1 g.2) L else kept j (place rs g.1 g.2) L
def gone (j : Nat) : List (List Int) → List (Int × Int) → List (Int × Int)
  | _, [] => []
  | rs, g :: L => if firstB rs g.2 < j then gone j (place rs g.1 g.2) L else g :: gone j (place rs g.1 g.2) L
theorem gone_sub (j : Nat) : ∀ (L : List (Int × Int)) (rs : List (List Int)), ∀ g ∈ gone j rs L, g ∈ L
  | [], _, g, h => h
  | x :: L, rs, g, h => by
    unfold gone at h
    split at h
    · exact List.mem_cons_of_mem _ (gone_sub j L _ g h)
    · rcases List.mem_cons.mp h with e | h
      · rw [e]
        exact List.mem_cons_self
      · exact List.mem_cons_of_mem _ (gone_sub j L _ g h)
theorem kept_settle (j : Nat) : ∀ (L : List (Int × Int)) (rs : List (List Int)), (kept j rs L).foldl (fun rs g => place rs g.1 g.2) (rs.take j) = (L.foldl (fun rs g => place rs g.1 g.2) rs).take j
  | [], _ => rfl
  | g :: L, rs => by
    rw [List.foldl_cons]
    unfold kept
    split
    · rename_i h
      rw [List.foldl_cons, ← take_place_lt rs g.1 g.2 j h]
      exact kept_settle j L _
    · rename_i h
      rw [← take_place_ge rs g.1 g.2 j (by omega)]
      exact kept_settle j L _
theorem gone_settle (j : Nat) : ∀ (L : List (Int × Int)) (rs : List (List Int)), ((L.foldl (fun rs g => place rs g.1 g.2) rs).drop j).flatten.Perm ((gone j rs L).map (·.1) ++ (rs.drop j).flatten)
  | [], _ => List.Perm.refl _
  | g :: L, rs => by
    rw [List.foldl_cons]
    refine (gone_settle j L _).trans ?_
    show ((gone j (place rs g.1 g.2) L).map (·.1) ++ _).Perm ((if firstB rs g.2 < j then gone j (place rs g.1 g.2) L else g :: gone j (place rs g.1 g.2) L).map (·.1) ++ _)
    split
    · rename_i h
      rw [drop_place_lt rs g.1 g.2 j h]
    · rename_i h
      rw [drop_place_ge rs g.1 g.2 j (by omega), List.map_cons, List.cons_append]
      exact ((place_perm (rs.drop j) g.1 g.2).append_left _).trans List.perm_middle
theorem kept_filter (j : Nat) : ∀ (L : List (Int × Int)) (rs : List (List Int)) (S : List Int), (L.map (·.1)).Nodup → (∀ g ∈ L, g.1 ∈ S ↔ g.1 ∈ (gone j rs L).map (·.1)) → L.filter (fun g => !decide (g.1 ∈ S)) = kept j rs L
  | [], _, _, _, _ => rfl
  | g :: L, rs, S, nd, h => by
    have nd' : (g.1 :: L.map (·.1)).Nodup := nd
    obtain ⟨n1, n2⟩ := List.nodup_cons.mp nd'
    have h0 := h g List.mem_cons_self
    unfold kept
    by_cases q : firstB rs g.2 < j
    · have eg : gone j rs (g :: L) = gone j (place rs g.1 g.2) L := by
        show (if _ then _ else _) = _
        rw [if_pos q]
      rw [eg] at h h0
      have ng : ¬ g.1 ∈ S := fun z => by
        obtain ⟨x, hx, e⟩ := List.mem_map.mp (h0.mp z)
        exact n1 (List.mem_map.mpr ⟨x, gone_sub j L _ x hx, e⟩)
      rw [if_pos q, List.filter_cons_of_pos (by simpa using ng), kept_filter j L _ S n2 fun x hx => h x (List.mem_cons_of_mem _ hx)]
    · have eg : gone j rs (g :: L) = g :: gone j (place rs g.1 g.2) L := by
        show (if _ then _ else _) = _
        rw [if_neg q]
      rw [eg] at h h0
      have ng : g.1 ∈ S := h0.mpr List.mem_cons_self
      rw [if_neg q, List.filter_cons_of_neg (by simpa using ng)]
      refine kept_filter j L _ S n2 fun x hx => ?_
      have hx1 := h x (List.mem_cons_of_mem _ hx)
      rw [hx1, List.map_cons, List.mem_cons]
      have ne : ¬ x.1 = g.1 := fun z => n1 (by rw [← z]; exact List.mem_map.mpr ⟨x, hx, rfl⟩)
      exact ⟨fun z => z.resolve_left ne, .inr⟩
theorem Fit.filter {gs : List (Int × Int)} (f : Fit gs) (k : Int × Int → Bool) : Fit (gs.filter k) :=
  ⟨f.nd.sublist (List.filter_sublist.map _), fun g hg => f.pos g (List.mem_filter.mp hg).1⟩
theorem byAge_filter {gs : List (Int × Int)} (f : Fit gs) (k : Int × Int → Bool) : byAge (gs.filter k) = (byAge gs).filter k :=
  (byAge_of (f.filter k) ((byAge_perm gs).filter k) ((byAge_sorted gs).sublist List.filter_sublist)).symm
theorem settle_left {gs : List (Int × Int)} (f : Fit gs) {S : List Int} {j : Nat} (h : ∀ a, a ∈ S ↔ a ∈ ((settle gs).drop j).flatten) : settle (gs.filter fun g => !decide (g.1 ∈ S)) = (settle gs).take j := by
  unfold settle
  rw [byAge_filter f]
  have hg := gone_settle j (byAge gs) []
  rw [List.drop_nil, List.flatten_nil, List.append_nil] at hg
  rw [kept_filter j (byAge gs) [] S f.byAge.nd fun g _ => (h g.1).trans hg.mem_iff]
  have := kept_settle j (byAge gs) []
  rw [List.take_nil] at this
  exact this
def sentAway (gs : List (Int × Int)) (j : Nat) : List Int := down ((settle gs).drop j).flatten
theorem sentAway_mem (gs : List (Int × Int)) (j : Nat) (a : Int) : a ∈ sentAway gs j ↔ a ∈ ((settle gs).drop j).flatten := (down_perm _).mem_iff
end El
namespace El
/-! ### one guest more -/
/-- b is s with one more put in -/
def Plus (s b : List Int) : Prop := ∃ (A : List Int) (m : Int) (B : List Int), s = A ++ B ∧ b = A ++ m :: B
/-- where s has g, b has m ahead -/
def Swap (s b : List Int) : Prop := ∃ (A : List Int) (m : Int) (B : List Int) (g : Int) (C : List Int), s = A ++ B ++ g :: C ∧ b = A ++ m :: B ++ C
def Alike (s b : List Int) : Prop := s = b ∨ Swap s b
theorem Plus.len {s b : List Int} (h : Plus s b) : b.length = s.length + 1 := by
  obtain ⟨A, m, B, rfl, rfl⟩ := h
  rw [List.length_append, List.length_append, List.length_cons]
  omega
theorem Alike.len {s b : List Int} (h : Alike s b) : b.length = s.length := by
  rcases h with rfl | ⟨A, m, B, g, C, rfl, rfl⟩
  · rfl
  · simp only [List.length_append, List.length_cons]
    omega
theorem Plus.snoc {s b : List Int} (h : Plus s b) (a : Int) : Plus (s ++ [a]) (b ++ [a]) := by
  obtain ⟨A, m, B, rfl, rfl⟩ := h
  exact ⟨A, m, B ++ [a], by rw [List.append_assoc], by rw [List.append_assoc]; rfl⟩
theorem Alike.snoc {s b : List Int} (h : Alike s b) (a : Int) : Alike (s ++ [a]) (b ++ [a]) := by
  rcases h with rfl | ⟨A, m, B, g, C, rfl, rfl⟩
  · exact .inl rfl
  · exact .inr ⟨A, m, B, g, C ++ [a], by simp only [List.append_assoc, List.cons_append], by simp only [List.append_assoc, List.cons_append]⟩
inductive Near : List (List Int) → List (List Int) → Prop
  | new (m : Int) : Near [] [[m]]
  | here {s b : List Int} (h : Plus s b) (rest : List (List Int)) : Near (s :: rest) (b :: rest)
  | skip {s b : List Int} {ss bs : List (List Int)} (h : Alike s b) (r : Near ss bs) : Near (s :: ss) (b :: bs)
theorem Near.place (rs : List (List Int)) (a p : Int) : Near rs (El.place rs a p) := by
  induction rs with
  | nil => exact .new a
  | cons r rs ih =>
    unfold El.place
    split
    · exact .here ⟨r, a, [], by simp, rfl⟩ rs
    · exact .skip (.inl rfl) ih
theorem Near.step {s b : List (List Int)} (h : Near s b) (a p : Int) (hp : 0 ≤ p) : Near (El.place s a p) (El.place b a p) := by
  induction h with
  | new m =>
    unfold El.place
    split
    · exact .here (s := [a]) (b := [m] ++ [a]) ⟨[], m, [a], rfl, rfl⟩ []
    · refine .skip (.inr ⟨[], m, [], a, [], rfl, rfl⟩) ?_
      exact .new a
  | @here s b hb rest =>
    have hl := hb.len
    unfold El.place
    by_cases h1 : (s.length : Int) ≤ p
    · rw [if_pos h1]
      by_cases h2 : (b.length : Int) ≤ p
      · rw [if_pos h2]
        exact .here (hb.snoc a) rest
      · rw [if_neg h2]
        obtain ⟨A, m, B, rfl, rfl⟩ := hb
        exact .skip (.inr ⟨A, m, B, a, [], rfl, by simp⟩) (Near.place rest a p)
    · rw [if_neg h1, if_neg (by omega)]
      exact .here hb _
  | @skip s b ss bs hs r ih =>
    have hl := hs.len
    unfold El.place
    by_cases h1 : (s.length : Int) ≤ p
    · rw [if_pos h1, if_pos (by omega)]
      exact .skip (hs.snoc a) r
    · rw [if_neg h1, if_neg (by omega)]
      exact .skip hs ih
theorem Near.fold {s b : List (List Int)} (h : Near s b) : ∀ (gs : List (Int × Int)), (∀ g ∈ gs, 0 ≤ g.2) → Near (gs.foldl (fun rs g => El.place rs g.1 g.2) s) (gs.foldl (fun rs g => El.place rs g.1 g.2) b)
  | [], _ => h
  | g :: gs, hp => by
    rw [List.foldl_cons, List.foldl_cons]
    exact Near.fold (h.step g.1 g.2 (hp g List.mem_cons_self)) gs fun x hx => hp x (List.mem_cons_of_mem _ hx)
/-- the order with one more -/
theorem byAge_split {gs : List (Int × Int)} {x : Int × Int} (f : Fit (x :: gs)) : ∃ pre post, byAge (x :: gs) = pre ++ x :: post ∧ byAge gs = pre ++ post := by
  have hx : x ∈ byAge (x :: gs) := (byAge_perm _).mem_iff.mpr List.mem_cons_self
  obtain ⟨pre, post, e⟩ := List.append_of_mem hx
  refine ⟨pre, post, e, ?_⟩
  have fg : Fit gs := ⟨(List.nodup_cons.mp f.nd).2, fun g hg => f.pos g (List.mem_cons_of_mem _ hg)⟩
  refine (byAge_of fg ?_ ?_).symm
  · have p : (pre ++ x :: post).Perm (x :: gs) := e ▸ byAge_perm (x :: gs)
    exact List.Perm.cons_inv (List.perm_middle.symm.trans p)
  · have s := byAge_sorted (x :: gs)
    rw [e] at s
    rw [List.pairwise_append] at s ⊢
    obtain ⟨s1, s2, s3⟩ := s
    exact ⟨s1, (List.pairwise_cons.mp s2).2, fun a ha b hb => s3 a ha b (List.mem_cons_of_mem _ hb)⟩
theorem settle_near {gs : List (Int × Int)} {x : Int × Int} (f : Fit (x :: gs)) : Near (settle gs) (settle (x :: gs)) := by
  obtain ⟨pre, post, e1, e2⟩ := byAge_split f
  unfold settle settleL
  rw [e1, e2, List.foldl_append, List.foldl_append, List.foldl_cons]
  exact (Near.place _ x.1 x.2).fold post fun g hg => f.pos g ((byAge_perm _).mem_iff.mp (by rw [e1]; exact List.mem_append_right _ (List.mem_cons_of_mem _ hg)))
/-- sizes: one room one fuller -/
def bump (L : List Int) (d : Nat) : List Int := if d < L.length then L.set d (L.getD d 0 + 1) else L ++ [1]
theorem bump_cons (x : Int) (L : List Int) (d : Nat) : bump (x :: L) (d + 1) = x :: bump L d := by
  unfold bump
  by_cases h : d < L.length
  · rw [if_pos h, if_pos (by rw [List.length_cons]; omega)]
    rfl
  · rw [if_neg h, if_neg (by rw [List.length_cons]; omega)]
    rfl
theorem Near.sizes {s b : List (List Int)} (h : Near s b) : ∃ d, d ≤ s.length ∧ b.map (fun r => (r.length : Int)) = bump (s.map fun r => (r.length : Int)) d := by
  induction h with
  | new m => exact ⟨0, Nat.le_refl _, rfl⟩
  | @here s b hb rest =>
    refine ⟨0, Nat.zero_le _, ?_⟩
    have hl := hb.len
    show ((b.length : Int) :: rest.map fun r => (r.length : Int)) = ((s.length : Int) + 1) :: rest.map fun r => (r.length : Int)
    rw [hl]
    rfl
  | @skip s b ss bs hs r ih =>
    obtain ⟨d, hd, e⟩ := ih
    refine ⟨d + 1, by rw [List.length_cons]; omega, ?_⟩
    rw [List.map_cons, List.map_cons, bump_cons, e, hs.len]
theorem bump_length (L : List Int) {d : Nat} : (bump L d).length = if d < L.length then L.length else L.length + 1 := by
  unfold bump
  split
  · rw [List.length_set]
  · rw [List.length_append]
    rfl
theorem bump_at (L : List Int) {d k : Nat} (hd : d ≤ L.length) (hk : k < (bump L d).length) : (bump L d)[k]? = some (L.getD k 0 + if k = d then 1 else 0) := by
  rw [bump_length] at hk
  unfold bump
  by_cases h : d < L.length
  · rw [if_pos h] at hk ⊢
    by_cases e : k = d
    · subst e
      rw [List.getElem?_set_self hk, if_pos rfl]
    · rw [List.getElem?_set_ne (fun z => e z.symm), if_neg e, Int.add_zero, List.getElem?_eq_getElem hk, List.getD_eq_getElem?_getD, List.getElem?_eq_getElem hk]
      rfl
  · rw [if_neg h] at hk ⊢
    have hd' : d = L.length := by omega
    subst hd'
    by_cases e : k = L.length
    · subst e
      rw [List.getElem?_append_right (Nat.le_refl _), Nat.sub_self, if_pos rfl, List.getD_eq_getElem?_getD, List.getElem?_eq_none (Nat.le_refl _)]
      rfl
    · have hk' : k < L.length := by omega
      rw [List.getElem?_append_left hk', if_neg e, Int.add_zero, List.getElem?_eq_getElem hk', List.getD_eq_getElem?_getD, List.getElem?_eq_getElem hk']
      rfl
end El
namespace El
/-! ### somebody comes: from room to room -/
/-- who is kept in a room with n inside, of those who come one after another -/
def g0 : Nat → List (Int × Int) → List (Int × Int)
  | _, [] => []
  | n, g :: L => if (n : Int) ≤ g.2 then g :: g0 (n + 1) L else g0 n L
/-- who goes on -/
def r0 : Nat → List (Int × Int) → List (Int × Int)
  | _, [] => []
  | n, g :: L => if (n : Int) ≤ g.2 then r0 (n + 1) L else g :: r0 n L
theorem g0_yes {n : Nat} {g : Int × Int} {L : List (Int × Int)} (h : (n : Int) ≤ g.2) : g0 n (g :: L) = g :: g0 (n + 1) L := if_pos h
theorem g0_no {n : Nat} {g : Int × Int} {L : List (Int × Int)} (h : ¬ (n : Int) ≤ g.2) : g0 n (g :: L) = g0 n L := if_neg h
theorem r0_yes {n : Nat} {g : Int × Int} {L : List (Int × Int)} (h : (n : Int) ≤ g.2) : r0 n (g :: L) = r0 (n + 1) L := if_pos h
theorem r0_no {n : Nat} {g : Int × Int} {L : List (Int × Int)} (h : ¬ (n : Int) ≤ g.2) : r0 n (g :: L) = g :: r0 n L := if_neg h
theorem fold_first : ∀ (L : List (Int × Int)) (r : List Int) (rs : List (List Int)), L.foldl (fun rs g => place rs g.1 g.2) (r :: rs) = (r ++ (g0 r.length L).map (·.1)) :: (r0 r.length L).foldl (fun rs g => place rs g.1 g.2) rs
  | [], r, rs => by
    show r :: rs = (r ++ []) :: rs
    rw [List.append_nil]
  | g :: L, r, rs => by
    rw [List.foldl_cons]
    by_cases h : (r.length : Int) ≤ g.2
    · have e : place (r :: rs) g.1 g.2 = (r ++ [g.1]) :: rs := by
        unfold place
        rw [if_pos h]
      rw [e, fold_first L, List.length_append, List.length_singleton]
      rw [g0_yes h, r0_yes h, List.map_cons, List.append_assoc]
      rfl
    · have e : place (r :: rs) g.1 g.2 = r :: place rs g.1 g.2 := by
        unfold place
        rw [if_neg h]
        cases rs <;> rfl
      rw [e, fold_first L]
      rw [g0_no h, r0_no h, List.foldl_cons]
/-- the first room, and the rooms of those who go on -/
theorem settle_first {L : List (Int × Int)} (hn : L ≠ []) (hp : ∀ g ∈ L, 0 ≤ g.2) : settleL L = (g0 0 L).map (·.1) :: settleL (r0 0 L) := by
  cases L with
  | nil => exact absurd rfl hn
  | cons g L =>
    have h0 : ((0 : Nat) : Int) ≤ g.2 := hp g (.head _)
    have e := fold_first L [g.1] []
    unfold settleL
    rw [List.foldl_cons]
    show L.foldl _ [[g.1]] = _
    rw [e, g0_yes h0, r0_yes h0]
    rfl
theorem g0_app : ∀ (A B : List (Int × Int)) (n : Nat), g0 n (A ++ B) = g0 n A ++ g0 (n + (g0 n A).length) B
  | [], B, n => rfl
  | g :: A, B, n => by
    rw [List.cons_append]
    by_cases h : (n : Int) ≤ g.2
    · rw [g0_yes h, g0_yes h, g0_app A B (n + 1), List.cons_append, List.length_cons, Nat.add_assoc, Nat.add_comm 1]
    · rw [g0_no h, g0_no h, g0_app A B n]
theorem r0_app : ∀ (A B : List (Int × Int)) (n : Nat), r0 n (A ++ B) = r0 n A ++ r0 (n + (g0 n A).length) B
  | [], B, n => rfl
  | g :: A, B, n => by
    rw [List.cons_append]
    by_cases h : (n : Int) ≤ g.2
    · rw [r0_yes h, r0_yes h, g0_yes h, r0_app A B (n + 1), List.length_cons, Nat.add_assoc, Nat.add_comm 1]
    · rw [r0_no h, r0_no h, g0_no h, r0_app A B n, List.cons_append]
/-- one more inside: nobody gives way, or one does, and all is as before from there on -/
theorem one_gives : ∀ (L : List (Int × Int)) (n : Nat), (g0 (n + 1) L = g0 n L ∧ r0 (n + 1) L = r0 n L ∧ ∀ i g, (g0 n L)[i]? = some g → ((n + 1 + i : Nat) : Int) ≤ g.2) ∨
    ∃ L1 y L2, L = L1 ++ y :: L2 ∧ g0 (n + 1) L1 = g0 n L1 ∧ r0 (n + 1) L1 = r0 n L1 ∧ (∀ i g, (g0 n L1)[i]? = some g → ((n + 1 + i : Nat) : Int) ≤ g.2) ∧ y.2 = ((n + (g0 n L1).length : Nat) : Int)
  | [], n => .inl ⟨rfl, rfl, fun i g e => by cases e⟩
  | g :: L, n => by
    by_cases h : (n : Int) ≤ g.2
    · by_cases h1 : ((n + 1 : Nat) : Int) ≤ g.2
      · rcases one_gives L (n + 1) with ⟨a, b, c⟩ | ⟨L1, y, L2, rfl, a, b, c, d⟩
        · refine .inl ⟨?_, ?_, fun i x e => ?_⟩
          · rw [g0_yes h, g0_yes h1, a]
          · rw [r0_yes h, r0_yes h1, b]
          · rw [g0_yes h] at e
            cases i with
            | zero => cases e; exact h1
            | succ i =>
              have := c i x e
              omega
        · refine .inr ⟨g :: L1, y, L2, rfl, ?_, ?_, fun i x e => ?_, ?_⟩
          · rw [g0_yes h, g0_yes h1, a]
          · rw [r0_yes h, r0_yes h1, b]
          · rw [g0_yes h] at e
            cases i with
            | zero => cases e; exact h1
            | succ i =>
              have := c i x e
              omega
          · rw [g0_yes h, List.length_cons, d]
            omega
      · exact .inr ⟨[], g, L, rfl, rfl, rfl, (fun i x e => by cases e), by show g.2 = ((n + 0 : Nat) : Int); omega⟩
    · have h1 : ¬ ((n + 1 : Nat) : Int) ≤ g.2 := by omega
      rcases one_gives L n with ⟨a, b, c⟩ | ⟨L1, y, L2, rfl, a, b, c, d⟩
      · refine .inl ⟨?_, ?_, fun i x e => ?_⟩
        · rw [g0_no h, g0_no h1, a]
        · rw [r0_no h, r0_no h1, b]
        · rw [g0_no h] at e
          exact c i x e
      · refine .inr ⟨g :: L1, y, L2, rfl, ?_, ?_, fun i x e => ?_, ?_⟩
        · rw [g0_no h, g0_no h1, a]
        · rw [r0_no h, r0_no h1, b]
        · rw [g0_no h] at e
          exact c i x e
        · rw [g0_no h]
          exact d
theorem g0_fine : ∀ (L : List (Int × Int)) (n i : Nat) (g : Int × Int), (g0 n L)[i]? = some g → ((n + i : Nat) : Int) ≤ g.2
  | [], _, _, _, e => by cases e
  | x :: L, n, i, g, e => by
    by_cases h : (n : Int) ≤ x.2
    · rw [g0_yes h] at e
      cases i with
      | zero => cases e; exact h
      | succ i =>
        have := g0_fine L (n + 1) i g e
        omega
    · rw [g0_no h] at e
      exact g0_fine L n i g e
theorem g0_sub : ∀ (L : List (Int × Int)) (n : Nat), (g0 n L).Sublist L
  | [], _ => .slnil
  | x :: L, n => by
    by_cases h : (n : Int) ≤ x.2
    · rw [g0_yes h]
      exact (g0_sub L (n + 1)).cons₂ x
    · rw [g0_no h]
      exact (g0_sub L n).cons x
theorem r0_sub : ∀ (L : List (Int × Int)) (n : Nat), (r0 n L).Sublist L
  | [], _ => .slnil
  | x :: L, n => by
    by_cases h : (n : Int) ≤ x.2
    · rw [r0_yes h]
      exact (r0_sub L (n + 1)).cons x
    · rw [r0_no h]
      exact (r0_sub L n).cons₂ x
/-- x comes among those of L, at its age's place -/
def Comes (x : Int × Int) (L L' : List (Int × Int)) : Prop := ∃ pre post, L = pre ++ post ∧ L' = pre ++ x :: post
/-- a room that x enters: either all bear it, and it is the room; or the first who does not is y, who goes on -/
theorem enters {x : Int × Int} {L L' : List (Int × Int)} (h : Comes x L L') (down' : L'.Pairwise fun g h => h.1 < g.1) :
    ∃ E : List (Int × Int), E.Perm (x :: g0 0 L) ∧ E.Pairwise (fun g h => h.1 < g.1) ∧
      (((∀ (j : Nat) (g : Int × Int), E[j]? = some g → (j : Int) ≤ g.2) ∧ g0 0 L' = E ∧ r0 0 L' = r0 0 L) ∨
        ∃ (i : Nat) (y : Int × Int), E[i]? = some y ∧ (∀ (j : Nat) (g : Int × Int), j < i → E[j]? = some g → (j : Int) ≤ g.2) ∧ y.2 < (i : Int) ∧ g0 0 L' = E.eraseIdx i ∧ Comes y (r0 0 L) (r0 0 L')) := by
  obtain ⟨pre, post, rfl, rfl⟩ := h
  have eg := g0_app pre post 0
  have er := r0_app pre post 0
  have eg' := g0_app pre (x :: post) 0
  have er' := r0_app pre (x :: post) 0
  rw [Nat.zero_add] at eg er eg' er'
  generalize hA : g0 0 pre = A at eg er eg' er'
  have fineA : ∀ (j : Nat) (g : Int × Int), A[j]? = some g → (j : Int) ≤ g.2 := fun j g e => by
    rw [← hA] at e
    have := g0_fine pre 0 j g e
    omega
  have subA : A.Sublist pre := hA ▸ g0_sub pre 0
  refine ⟨A ++ x :: g0 A.length post, ?_, down'.sublist (subA.append ((g0_sub post A.length).cons₂ x)), ?_⟩
  · rw [eg]
    exact List.perm_middle
  · by_cases hx : (A.length : Int) ≤ x.2
    · rw [eg', er', g0_yes hx, r0_yes hx, er]
      rcases one_gives post A.length with ⟨a, b, c⟩ | ⟨L1, y, L2, rfl, a, b, c, d⟩
      · refine .inl ⟨fun j g e => ?_, by rw [a], by rw [b]⟩
        by_cases hj : j < A.length
        · rw [List.getElem?_append_left hj] at e
          exact fineA j g e
        · rw [List.getElem?_append_right (by omega)] at e
          cases hd : j - A.length with
          | zero =>
            rw [hd] at e
            cases e
            omega
          | succ k =>
            rw [hd] at e
            have := c k g e
            omega
      · have d1 : ((A.length + (g0 A.length L1).length : Nat) : Int) ≤ y.2 := by omega
        have d2 : ¬ ((A.length + 1 + (g0 (A.length + 1) L1).length : Nat) : Int) ≤ y.2 := by rw [a]; omega
        have eold : g0 A.length (L1 ++ y :: L2) = g0 A.length L1 ++ y :: g0 (A.length + (g0 A.length L1).length + 1) L2 := by rw [g0_app, g0_yes d1]
        have enew : g0 (A.length + 1) (L1 ++ y :: L2) = g0 A.length L1 ++ g0 (A.length + (g0 A.length L1).length + 1) L2 := by
          rw [g0_app, g0_no d2, a]
          congr 2
          omega
        have rold : r0 A.length (L1 ++ y :: L2) = r0 A.length L1 ++ r0 (A.length + (g0 A.length L1).length + 1) L2 := by rw [r0_app, r0_yes d1]
        have rnew : r0 (A.length + 1) (L1 ++ y :: L2) = r0 A.length L1 ++ y :: r0 (A.length + (g0 A.length L1).length + 1) L2 := by
          rw [r0_app, r0_no d2, a, b]
          congr 3
          omega
        rw [eold, enew, rold, rnew]
        refine .inr ⟨A.length + 1 + (g0 A.length L1).length, y, ?_, fun j g hj e => ?_, by omega, ?_, r0 0 pre ++ r0 A.length L1, r0 (A.length + (g0 A.length L1).length + 1) L2, by rw [List.append_assoc], by rw [List.append_assoc]⟩
        · rw [List.getElem?_append_right (by omega), show A.length + 1 + (g0 A.length L1).length - A.length = (g0 A.length L1).length + 1 by omega, List.getElem?_cons_succ, List.getElem?_append_right (Nat.le_refl _), Nat.sub_self]
          rfl
        · by_cases h1 : j < A.length
          · rw [List.getElem?_append_left h1] at e
            exact fineA j g e
          · rw [List.getElem?_append_right (by omega)] at e
            cases hd : j - A.length with
            | zero =>
              rw [hd] at e
              cases e
              omega
            | succ k =>
              rw [hd, List.getElem?_cons_succ, List.getElem?_append_left (by omega)] at e
              have := c k g e
              omega
        · rw [List.eraseIdx_append_of_length_le (by omega), show A.length + 1 + (g0 A.length L1).length - A.length = (g0 A.length L1).length + 1 by omega, List.eraseIdx_cons_succ, List.eraseIdx_append_of_length_le (Nat.le_refl _), Nat.sub_self]
          rfl
    · rw [eg', er', g0_no hx, r0_no hx, er]
      refine .inr ⟨A.length, x, ?_, fun j g hj e => ?_, by omega, ?_, r0 0 pre, r0 A.length post, rfl, rfl⟩
      · rw [List.getElem?_append_right (Nat.le_refl _), Nat.sub_self]
        rfl
      · rw [List.getElem?_append_left hj] at e
        exact fineA j g e
      · rw [List.eraseIdx_append_of_length_le (Nat.le_refl _), Nat.sub_self]
        rfl
theorem map_erase0' {α β : Type} (f : α → β) : ∀ (l : List α) (k : Nat), (l.map f).eraseIdx k = (l.eraseIdx k).map f
  | [], _ => rfl
  | _ :: _, 0 => rfl
  | a :: l, k + 1 => by
    rw [List.map_cons, List.eraseIdx_cons_succ, List.eraseIdx_cons_succ, List.map_cons, map_erase0' f l k]
/-- who is in the first room -/
def roomOf (L : List (Int × Int)) : List Int := (g0 0 L).map (·.1)
theorem settle_parts {L : List (Int × Int)} (hp : ∀ g ∈ L, 0 ≤ g.2) : settleL L = if L = [] then [] else roomOf L :: settleL (r0 0 L) := by
  by_cases h : L = []
  · rw [if_pos h, h]
    rfl
  · rw [if_neg h]
    exact settle_first h hp
theorem erase_at : ∀ {l : List Int} {i : Nat} {a : Int}, l.Nodup → l[i]? = some a → l.erase a = l.eraseIdx i
  | x :: l, 0, a, _, e => by
    obtain rfl : x = a := Option.some.inj e
    rw [List.erase_cons_head]
    rfl
  | x :: l, i + 1, a, nd, e => by
    rw [List.nodup_cons] at nd
    have m : a ∈ l := List.mem_of_getElem? (i := i) (by simpa using e)
    have ne : x ≠ a := fun z => nd.1 (z ▸ m)
    rw [List.erase_cons_tail (by simpa using ne), List.eraseIdx_cons_succ, erase_at nd.2 (by simpa using e)]
/-- somebody enters the first room of those of L -/
theorem come_step {gs : List (Int × Int)} (F : Fit gs) {x : Int × Int} {L L' : List (Int × Int)} (h : Comes x L L') (sub : L'.Sublist (byAge gs)) :
    ∃ E : List Int, E.Perm (x.1 :: roomOf L) ∧ E.Pairwise (· > ·) ∧
      ((eldUp gs E = none ∧ settleL L' = E :: settleL (r0 0 L)) ∨ ∃ y, y ∈ L' ∧ y.1 ∈ E ∧ eldUp gs E = some y.1 ∧ settleL L' = E.erase y.1 :: settleL (r0 0 L') ∧ Comes y (r0 0 L) (r0 0 L')) := by
  have desc : (byAge gs).Pairwise fun g h => h.1 < g.1 := by
    have h1 := byAge_sorted gs
    have h2 : (byAge gs).Pairwise fun g h => g.1 ≠ h.1 := by
      have := ((byAge_perm gs).map (·.1)).nodup_iff.mpr F.nd
      rw [List.Nodup, List.pairwise_map] at this
      exact this
    exact (h1.and h2).imp fun h => by omega
  have mem : ∀ g ∈ L', g ∈ gs := fun g m => (byAge_perm gs).mem_iff.mp (sub.subset m)
  have ne : L' ≠ [] := by
    obtain ⟨pre, post, _, rfl⟩ := h
    simp
  have first := settle_first ne fun g m => F.pos g (mem g m)
  have subL : L.Sublist L' := by
    obtain ⟨pre, post, rfl, rfl⟩ := h
    exact (List.Sublist.refl pre).append (List.sublist_cons_self x post)
  have xm : x ∈ L' := by
    obtain ⟨pre, post, _, rfl⟩ := h
    simp
  obtain ⟨E, pE, dE, out⟩ := enters h (desc.sublist sub)
  have inL : ∀ g ∈ E, g ∈ L' := fun g m => by
    rcases List.mem_cons.mp (pE.mem_iff.mp m) with rfl | m
    · exact xm
    · exact subL.subset ((g0_sub L 0).subset m)
  have dE' : (E.map (·.1)).Pairwise (· > ·) := by
    rw [List.pairwise_map]
    exact dE.imp fun h => h
  have nd : (E.map (·.1)).Nodup := dE'.imp fun h => by omega
  have isDown : down (E.map (·.1)) = E.map (·.1) := (down_is (.refl _) (dE'.imp fun h => by omega)).symm
  have pofE : ∀ g ∈ E, pof gs g.1 = g.2 := fun g m => pof_is F.nd (mem g (inL g m))
  refine ⟨E.map (·.1), pE.map _, dE', ?_⟩
  rcases out with ⟨fine, e1, e2⟩ | ⟨i, y, ey, fine, bad, e1, e2⟩
  · refine .inl ⟨?_, by rw [first, e1, e2]⟩
    unfold eldUp
    rw [isDown]
    refine upIn_none fun j a e => ?_
    rw [List.getElem?_map] at e
    obtain ⟨g, eg, rfl⟩ := Option.map_eq_some_iff.mp e
    rw [pofE g (List.mem_of_getElem? eg)]
    exact fine j g eg
  · have ym := List.mem_of_getElem? ey
    refine .inr ⟨y, inL y ym, List.mem_map_of_mem ym, ?_, ?_, e2⟩
    · unfold eldUp
      rw [isDown]
      refine upIn_at (i := i) (by rw [List.getElem?_map, ey]; rfl) (fun j a hj e => ?_) (by rw [pofE y ym]; omega)
      rw [List.getElem?_map] at e
      obtain ⟨g, eg, rfl⟩ := Option.map_eq_some_iff.mp e
      rw [pofE g (List.mem_of_getElem? eg)]
      exact fine j g hj eg
    · rw [first, e1, erase_at nd (by rw [List.getElem?_map, ey]; rfl)]
      congr 1
      exact (map_erase0' (·.1) E i).symm
end El
namespace El
/-- a crowd comes to a first room in which h live -/
def kst (h : Int) (c : Int × Int) : Int := if c.2 + 1 ≤ h then h else if h + c.1 ≤ c.2 + 1 then h + c.1 else c.2 + 1
def stay (cs : List (Int × Int)) (n : Int) : Int := cs.foldl kst n
def Crw (cs : List (Int × Int)) : Prop := ∀ c ∈ cs, 1 ≤ c.1 ∧ 0 ≤ c.2
theorem stay_snoc (cs : List (Int × Int)) (c : Int × Int) (n : Int) : stay (cs ++ [c]) n = kst (stay cs n) c := by
  unfold stay
  rw [List.foldl_append]
  rfl
theorem stay_cat (cs ds : List (Int × Int)) (n : Int) : stay (cs ++ ds) n = stay ds (stay cs n) := by
  unfold stay
  rw [List.foldl_append]
theorem stay_cons (c : Int × Int) (cs : List (Int × Int)) (n : Int) : stay (c :: cs) n = stay cs (kst n c) := rfl
theorem kst_ge (h : Int) (c : Int × Int) (k : 1 ≤ c.1) : h ≤ kst h c := by
  unfold kst
  split
  · omega
  · split <;> omega
/-- one elder more: as many, or one more -/
theorem kst_one (h h' : Int) (c : Int × Int) (k : 1 ≤ c.1) (d : h' = h ∨ h' = h + 1) : kst h' c = kst h c ∨ kst h' c = kst h c + 1 := by
  unfold kst
  split <;> split <;> (try split) <;> (try split) <;> omega
theorem Crw.cons {c : Int × Int} {cs : List (Int × Int)} (h : Crw (c :: cs)) : (1 ≤ c.1 ∧ 0 ≤ c.2) ∧ Crw cs := ⟨h c List.mem_cons_self, fun d m => h d (List.mem_cons_of_mem _ m)⟩
theorem Crw.cat {cs ds : List (Int × Int)} (h : Crw cs) (k : Crw ds) : Crw (cs ++ ds) := fun c m => (List.mem_append.mp m).elim (h c) (k c)
theorem stay_ge : ∀ {cs : List (Int × Int)}, Crw cs → ∀ n, n ≤ stay cs n
  | [], _, n => Int.le_refl _
  | c :: cs, h, n => by
    rw [stay_cons]
    exact Int.le_trans (kst_ge n c h.cons.1.1) (stay_ge h.cons.2 _)
theorem stay_one : ∀ {cs : List (Int × Int)}, Crw cs → ∀ n n', (n' = n ∨ n' = n + 1) → stay cs n' = stay cs n ∨ stay cs n' = stay cs n + 1
  | [], _, n, n', d => d
  | c :: cs, h, n, n', d => by
    rw [stay_cons, stay_cons]
    exact stay_one h.cons.2 _ _ (kst_one n n' c h.cons.1.1 d)
/-- a crowd parted in two -/
theorem kst_part (h : Int) (a b p : Int) (ha : 1 ≤ a) (hb : 1 ≤ b) : kst (kst h (a, p)) (b, p) = kst h (a + b, p) := by
  unfold kst
  dsimp only
  split <;> (try split) <;> (try split) <;> (try split) <;> (try split) <;> omega
end El
namespace El
theorem stay_lt {M : Int} : ∀ {cs : List (Int × Int)}, (∀ c ∈ cs, c.2 + 1 < M) → ∀ n, n < M → stay cs n < M
  | [], _, n, h => h
  | c :: cs, k, n, h => by
    rw [stay_cons]
    refine stay_lt (fun d m => k d (List.mem_cons_of_mem _ m)) _ ?_
    have := k c List.mem_cons_self
    unfold kst
    split
    · omega
    · split <;> omega
theorem kst_0 (h p : Int) : kst h (0, p) = h := by
  unfold kst
  dsimp only
  split
  · rfl
  · split <;> omega
theorem kst_succ (h p : Int) (k : Nat) : kst h (((k + 1 : Nat) : Int), p) = kst h ((k : Int), p) + (if decide (kst h ((k : Int), p) ≤ p) = true then 1 else 0) := by
  by_cases e : kst h ((k : Int), p) ≤ p
  · rw [decide_eq_true e, if_pos rfl]
    unfold kst at e ⊢
    dsimp only at e ⊢
    split <;> (try split) <;> (try split) <;> (try split) <;> (split at e) <;> (try split at e) <;> omega
  · rw [decide_eq_false e, if_neg (by decide), Int.add_zero]
    unfold kst at e ⊢
    dsimp only at e ⊢
    split <;> (try split) <;> (try split) <;> (try split) <;> (split at e) <;> (try split at e) <;> omega
end El
namespace El
open PySem PySem.Spec PyProof.Rows L2
/-! ### a def of the text as callers see it -/
structure Df (P : Program) (w : World) (K : PySem.W.Frag) (mg : Str → Option Value) (base : Heap) (k : Nat) (x : Str) (ps : List Str) (st : Stmt) (sp : Sp) : Prop where
  ex : ∃ (f : Addr) (fd : FuncData), Fun K x x st f fd ∧ mg x = some (.ref f) ∧ FnOk P w K mg base CX0 k f fd ps sp ∧ Binds K fd ps []
/-- where a def stands -/
structure At (K : PySem.W.Frag) (mg : Str → Option Value) (x : Str) (ps : List Str) (st : Stmt) : Prop where
  ex : ∃ (f : Addr) (fd : FuncData), Fun K x x st f fd ∧ mg x = some (.ref f) ∧ Binds K fd ps []
theorem At.df {P : Program} {w : World} {K : PySem.W.Frag} {mg : Str → Option Value} {base : Heap} {k : Nat} {x : Str} {ps : List Str} {st : Stmt} {sp : Sp} (A : At K mg x ps st)
    (h : ∀ f fd, Fun K x x st f fd → FnOk P w K mg base CX0 k f fd ps sp) : Df P w K mg base k x ps st sp := by
  obtain ⟨f, fd, F, m, b⟩ := A.ex
  exact ⟨f, fd, F, m, h f fd F, b⟩
section
variable {X : Cx} {k : Nat} {x : Str} {ps : List Str} {st : Stmt} {sp : Sp} {p pos : Pos} {e : Expr} {es : List Expr} {kws : List Keyword} {t tk : TA}
theorem pe_df (D : Df X.prog X.w X.K X.mg X.base k x ps st sp) (hr : Room k X.A) (hg : Gl X x) (ha : PA X (e :: es) t) (hdb : (x == ("__debug__" : Str)) = false := by decide)
    (he : starEach (e :: es) X.env = (false, eval e X.env) :: starEach es X.env := by rfl) (hpl : (backTo pos (starEach es X.env)).any (·.1) = false := by rfl) : PE X (.Call (.Name x p) (e :: es) [] pos) (tCall sp [] E0 t) := by
  obtain ⟨f, fd, F, m, G, b⟩ := D.ex
  exact pe_call G hr hg m F.kp b .nil pass0 ha hdb he hpl
theorem pe_df0 (D : Df X.prog X.w X.K X.mg X.base k x ps st sp) (hr : Room k X.A) (hg : Gl X x) (hdb : (x == ("__debug__" : Str)) = false := by decide) : PE X (.Call (.Name x p) [] [] pos) (tCall sp [] E0 tNil) := by
  obtain ⟨f, fd, F, m, G, b⟩ := D.ex
  exact pe_call0 G hr hg m F.kp b .nil pass0 hdb
def tCallW (n : Nat) (sp : Sp) (g : List V → List V) (tk : TA) : TE := fun σ H Q => tk σ H fun zs H2 => zs.length = n ∧ sp (g zs) H2 Q E0
/-- f(k = v, ..): keywords alone -/
theorem pe_dfK (D : Df X.prog X.w X.K X.mg X.base k x ps st sp) (ks : List Str) (g : {α : Type} → List α → List α) (hr : Room k X.A) (hg : Gl X x) (hkw : PK X kws tk)
    (hb : ∀ (kV doc pm : Value) (an : Option Addr) (cdv ct : Value) (ws : List Value), ws.length = ks.length → bindArgs (PySem.W.fnOf x x (defArgs st) (defBody st) (defScope st) .none kV doc pm an cdv ct) ⟨[], ks.zip ws⟩ = pure (ps.zip (g ws)))
    (hrel : ∀ {zs : List V} {ws : List Value}, Vals zs ws → Vals (g zs) (g ws))
    (hall : (backToKw pos (keywordEach kws X.env)).all (·.1.isSome) = true := by rfl) (hks : (backToKw pos (keywordEach kws X.env)).filterMap (·.1) = ks := by rfl) (hdb : (x == ("__debug__" : Str)) = false := by decide)
    (hpl : ((backTo pos (starEach [] X.env)).any (·.1) || (backToKw pos (keywordEach kws X.env)).any (·.1.isNone)) = false := by rfl) :
    PE X (.Call (.Name x p) [] kws pos) (tCallW ks.length sp (fun zs => g zs) tk) := by
  obtain ⟨f, fd, F, m, G, b⟩ := D.ex
  have kp := F.kp
  have KB : KBn X.K fd ps 0 ks (fun us ws => us ++ g ws) (fun vs zs => vs ++ g zs) := by
    obtain ⟨oc, od, kV, doc, pm, an, cdv, ct, osl, rfl, lk, hcd⟩ := F.ex
    refine ⟨fun s us ws hK l1 l2 => ?_, fun {vs us zs ws} r rz => Vals.append r (hrel rz)⟩
    obtain rfl := List.eq_nil_of_length_eq_zero l1
    exact .of_eq (hb kV doc pm an cdv ct ws l2)
  refine ⟨fun pins s σ H Q I h => ?_⟩
  refine wpAny_Call_Name_kw (ld_glob I hg m ?_ hdb)
  refine PySem.W.callWith_KW0 (h₀ := X.base) I.ok.mod.kin kp hall ?_ hpl
  refine thn (hkw.run pos pins s σ H _ I h) fun ws s2 ⟨zs, H2, I2, rz, l2, q2⟩ => ⟨I2.kIn, ?_⟩
  rw [hks]
  exact run_fnN (us := []) (vs := []) G hr KB pass0 I2 .nil rz rfl l2 q2
end
theorem Df.at {P : Program} {w : World} {K : PySem.W.Frag} {mg : Str → Option Value} {base : Heap} {k : Nat} {x : Str} {ps : List Str} {st : Stmt} {sp : Sp} {fa : Addr} {fd : FuncData} {oc : Value} {od : Option Addr} {sl : Array (Option Value)}
    (D : Df P w K mg base k x ps st sp) (hf : mg x = some (.ref fa)) (l : K.lookup fa = some ⟨oc, od, .func fd, sl⟩) : FnOk P w K mg base CX0 k fa fd ps sp := by
  obtain ⟨f, fd', F, m, G, b⟩ := D.ex
  obtain rfl : fa = f := by
    have e := hf.symm.trans m
    injection e with e
    injection e
  obtain ⟨oc', od', kV, doc, pm, an, cdv, ct, osl, e1, lk, hcd⟩ := F.ex
  have e := l.symm.trans lk
  injection e with e
  injection e with _ _ e _
  injection e with e
  rw [e]
  exact G
theorem At.mk' {K : PySem.W.Frag} {mg : Str → Option Value} {h : Heap} {x : Str} {ps : List Str} {st : Stmt} {f : Addr} {oc : Value} {od an : Option Addr} {osl : Array (Option Value)} {kV doc pm cdv ct : Value} (X : K.In h) (G : h.Ns mainGlobals mg)
    (a : PySem.W.nsIn K mainGlobals x = some (some (.ref f))) (l : K.lookup f = some ⟨oc, od, .func (PySem.W.fnOf x x (defArgs st) (defBody st) (defScope st) .none kV doc pm an cdv ct), osl⟩)
    (c : PySem.W.codeIn K cdv x = true) (k : PySem.W.keepIn K (.ref f) = true)
    (b : ∀ (kV doc pm : Value) (an : Option Addr) (cdv ct : Value) (us : List Value), us.length = ps.length → bindArgs (PySem.W.fnOf x x (defArgs st) (defBody st) (defScope st) .none kV doc pm an cdv ct) ⟨us, []⟩ = pure (ps.zip us)) : At K mg x ps st :=
  have F := fun_mk (st := st) l c k
  ⟨f, _, F, PySem.W.mg_of X G a, F.binds b⟩
end El
namespace El
open PySem PySem.Spec PyProof.Rows L2
section
variable {X : Cx}
/-! sorted(..., reverse=b) of anything whose walk is known -/
/-- partners: each pair is something of ours and the value that stands for it -/
abbrev Partners (P : List (V × Value)) : Prop := ∀ p ∈ P, RelV p.1 p.2
theorem partners_of : ∀ {xs : List V} {us : List Value}, Vals xs us → ∃ P, Partners P ∧ P.map Prod.fst = xs ∧ P.map Prod.snd = us
  | _, _, .nil => ⟨[], fun _ m => (List.not_mem_nil m).elim, rfl, rfl⟩
  | _, _, .cons h t =>
    let ⟨P, hP, e1, e2⟩ := partners_of t
    ⟨(_, _) :: P, fun p m => (List.mem_cons.mp m).elim (fun e => e ▸ h) (hP p), congrArg _ e1, congrArg _ e2⟩
theorem Partners.vals : ∀ {P : List (V × Value)}, Partners P → Vals (P.map Prod.fst) (P.map Prod.snd)
  | [], _ => .nil
  | _ :: _, h => .cons (h _ (.head _)) (Partners.vals fun p m => h p (.tail _ m))
/-- the values in another order: the partners go along -/
theorem go_along {α β : Type} {f : α → β} {ys : List β} : ∀ {P : List α}, ys.Perm (P.map f) → ∃ P' : List α, P'.Perm P ∧ P'.map f = ys := by
  suffices key : ∀ {as bs : List β}, as.Perm bs → ∀ P : List α, P.map f = as → ∃ P' : List α, P'.Perm P ∧ P'.map f = bs from
    fun {P} h => key h.symm P rfl
  intro as bs h
  induction h with
  | nil => exact fun P e => ⟨P, .refl _, e⟩
  | cons x _ ih =>
    intro P e
    match P, e with
    | q :: P, e =>
      obtain ⟨P', hp, e'⟩ := ih P (List.cons.inj e).2
      exact ⟨q :: P', hp.cons q, by rw [List.map_cons, e', (List.cons.inj e).1]⟩
  | swap x y l =>
    intro P e
    match P, e with
    | q :: r :: P, e => exact ⟨r :: q :: P, .swap .., by
        have e1 := List.cons.inj e
        have e2 := List.cons.inj e1.2
        rw [List.map_cons, List.map_cons, e1.1, e2.1, e2.2]⟩
  | trans _ _ ih1 ih2 =>
    intro P e
    obtain ⟨P1, h1, e1⟩ := ih1 P e
    obtain ⟨P2, h2, e2⟩ := ih2 P1 e1
    exact ⟨P2, h2.trans h1, e2⟩
/-- forwards or backwards -/
abbrev turn {α : Type} (b : Bool) (l : List α) : List α := if b = true then l.reverse else l
theorem turn_map {α β : Type} (f : α → β) (l : List α) : ∀ b, (turn b l).map f = turn b (l.map f)
  | true => List.map_reverse ..
  | false => rfl
theorem turn_perm {α : Type} (l : List α) : ∀ b, (turn b l).Perm l
  | true => l.reverse_perm
  | false => .refl _
theorem turn_arr {α : Type} (l : List α) : ∀ b : Bool, (if b = true then l.toArray.reverse else l.toArray) = (turn b l).toArray
  | true => List.reverse_toArray ..
  | false => rfl
/-- the walk over v gathers what stands for xs, and nothing that lay there is touched -/
def Gathers (X : Cx) (s : Shared) (v : Value) (xs : List V) : Prop :=
  ∀ R : List Value → Shared → Prop, (∀ us h t, Vals xs us → (∀ b o, s.heap.get? b = some o → h.get? b = some o) → R us { s with heap := h, toks := t }) → wpAny (model X.prog X.w) X.A.in1 (collect v) R X.xe s
theorem sorted_gathered {pins : List (Addr × Obj)} {σ : L2.St} {H : Hp} {s : Shared} {Q : VK} {b : Bool} {v : Value} {xs : List V} {less : Value → Value → Bool}
    (I : Inv X pins σ H s) (few : xs.length ≤ sizeLine) (walk : Gathers X s v xs) (O : SrtO.Swo less)
    (able : ∀ (us : List Value) (s' : Shared) (l : Addr), 2 ≤ us.length → Vals xs us → Inv X pins σ (upd H l (.lst xs)) s' → H l = none → SrtO.SortableO X.prog X.w X.A.in1.in1 s' l us less)
    (q : ∀ (P : List (V × Value)) (l : Addr), Partners P → (P.map Prod.fst).Perm xs → SrtO.Srtd less (P.map Prod.snd) → H l = none → Q (.ref l) (upd H l (.lst (turn b (P.map Prod.fst))))) :
    wpAny (model X.prog X.w) X.A (call (.builtin "sorted") [v] [(Str.ofString "reverse", .bool b)]) (EP X pins σ Q) X.xe s := by
  refine call_function_entry_kw kind_sorted plain_sorted entry_sorted (args_sorted_rev v (.bool b)) ?_
  refine wpAny_bind (m := checkCount "sorted" 1 1 _) (wpAny_pure ?_)
  refine wpAny_bind (walk _ fun us h t for_xs grown => ?_)
  have n2 : us.length ≤ sizeLine := for_xs.length ▸ few
  refine wpAny_bind (wpAny_newList (wpAny_bind (wpAny_holding ?_)) n2)
  -- the new list lies there, and is ours
  generalize hl : ({ s with heap := h, toks := t } : Shared).heap.objs.size = l
  have hl' : h.objs.size = l := hl
  have at_l : (h.push (seqObj "list" us.toArray 0)).get? l = some (seqObj "list" us.toArray 0) := hl' ▸ Heap.get?_push_size _ rfl
  have free : H l = none := hl' ▸ (I.kept (t' := t) grown).hok.fresh (Nat.le_refl _)
  have J : Inv X pins σ (upd H l (.lst xs)) { s with heap := h.push (seqObj "list" us.toArray 0), toks := t } :=
    (I.kept (t' := t) grown).laid (t' := t) (fun _ _ => Heap.get?_push_of_some _) (Nat.le_of_eq hl) ⟨few, _, 0, for_xs, at_l⟩
  -- it is sorted where it lies
  refine PyProof.Rows.wpAny_call_entry_kw slot_list_sort ⟨_, at_l, rfl⟩ entry_list_sort ?_ (args_list_sort_rev _ (.bool b))
  refine SrtR.list_sort_ordR O at_l n2 (fun two => able us _ l two for_xs J free) fun out up same => ⟨_, rfl, wpAny_pure ⟨_, rfl, ?_⟩⟩
  obtain ⟨P0, hP0, rfl, rfl⟩ := partners_of for_xs
  obtain ⟨P, p1, rfl⟩ := go_along (same.perm.trans (turn_perm (P0.map Prod.snd) b))
  rw [turn_arr]
  obtain ⟨e, he⟩ := sortedHeap_at (out := (turn b (P.map Prod.snd)).toArray) at_l
  have hP : Partners P := fun p m => hP0 p (p1.mem_iff.mp m)
  have ends : Partners (turn b P) := fun p m => hP p ((turn_perm P b).mem_iff.mp m)
  have done := J.write (o := .lst (turn b (P.map Prod.fst))) (t' := t) (h' := sortedHeap (h.push (seqObj "list" (P0.map Prod.snd).toArray 0)) l (P0.map Prod.snd) (turn b (P.map Prod.snd)).toArray)
    (by rw [upd_same]; trivial) (.inl rfl) (fun c u away there => (sortedHeap_old away (Heap.lt_size there)).trans there) ⟨_, he⟩
    ⟨by rw [((turn_perm _ b).trans (p1.map _)).length_eq]; exact few, _, e, by rw [← turn_map, ← turn_map]; exact ends.vals, he⟩
  rw [upd_upd] at done
  exact ⟨.ref l, _, done, rfl, q P l hP (p1.map _) up free⟩
/-- the walk over a dict: its keys -/
theorem gathers_dict {pins : List (Addr × Obj)} {σ : L2.St} {H : Hp} {s : Shared} {a : Addr} {kvs : List (L2.Key × V)} (calm : X.calm = true) (I : Inv X pins σ H s) (d : Rd H a (.dK kvs)) :
    kvs.length ≤ sizeLine ∧ Gathers X s (.ref a) (kvs.map fun e => kV e.1) := by
  have ⟨few, own, es, same, lies⟩ := dk_rd I.hok d
  have ⟨ep, lies⟩ := lies.dictAt
  have keys : (kvs.map fun e => kV e.1) = es.map fun e => kV e.1 := by
    have h := congrArg (List.map kV) same.keys
    rw [List.map_map, List.map_map] at h
    exact h
  refine ⟨few, fun R go => ?_⟩
  rw [keys] at go
  exact PySem.W.kdu_collect (PySem.W.kdl_dict (knd := mixKind X.prog X.w) own) (I.ok.hd calm) lies (same.length ▸ few)
    fun h t got grown is => go _ h t (keys_at (by simpa using is.1) fun j v at_j => is.2 j v (by simpa using at_j)) grown
theorem ints_back {us : List Value} {ns : List Int} (h : IntsAre us ns) : us.map SrtO.iv = ns := by
  induction h with
  | nil => rfl
  | cons n t _ ih => exact congrArg (n :: ·) ih
/-- sorted(d, reverse=b) of a dict whose keys are ints -/
def rSortedRevD (b : Bool) : List V → List V → Hp → VK → Prop := fun vs zs H Q => ∃ (a : Addr) (kvs : List (L2.Key × V)) (ks : List Int), vs = [V.ref a] ∧ zs = [.bl b] ∧ Rd H a (.dK kvs) ∧ kvs.map (·.1) = ks.map Sum.inl ∧
  ∀ (ns' : List Int) (p : Addr), ns'.Perm ks → OrdB b ns' → H p = none → Q (.ref p) (upd H p (.lst (ns'.map V.int)))
theorem cr_sortedRevD {b : Bool} (calm : X.calm = true) : CallRK X (.builtin "sorted") [Str.ofString "reverse"] (rSortedRevD b) := by
  rintro pins s σ H _ _ us ws Q I one by_kw ⟨a, kvs, ks, rfl, rfl, d, hks, q⟩
  obtain ⟨v, w, rfl, rfl, rfl, rfl⟩ : ∃ v w, us = [v] ∧ ws = [w] ∧ v = .ref a ∧ w = .bool b := by
    cases one with | cons e1 t1 => cases t1; cases by_kw with | cons e2 t2 => cases t2; exact ⟨_, _, rfl, rfl, e1, e2⟩
  have keys : (kvs.map fun e => kV e.1) = ks.map V.int := by
    have h := congrArg (List.map kV) hks
    rw [List.map_map, List.map_map] at h
    exact h
  have ⟨few, walk⟩ := gathers_dict calm I d
  rw [keys] at walk
  refine sorted_gathered I (by rw [← keys, List.length_map]; exact few) walk SrtO.swo_int (fun us _ _ two r _ _ => SrtO.ints_sortable r.ints two) fun P l hP perm up free => ?_
  obtain ⟨ns, np, en⟩ := go_along perm
  have back := ints_back (Vals.ints (en ▸ hP.vals))
  rw [← en, ← turn_map]
  refine q _ l ((turn_perm ns b).trans np) ?_ free
  have rise : ns.Pairwise (· ≤ ·) := by
    rw [← back, List.pairwise_map]
    exact up.imp fun h => Int.not_lt.mp (of_decide_eq_false h)
  cases b with
  | false => exact rise
  | true => exact List.pairwise_reverse.mpr rise
end
end El
namespace El
open PySem PySem.Spec PyProof.Rows L2
/-! ### heaps -/
/-- what B names stays as it was -/
def Kp (B : Addr → Prop) (H H' : Hp) : Prop := ∀ b o, B b → H b = some o → H' b = some o
theorem Kp.refl {B : Addr → Prop} {H : Hp} : Kp B H H := fun _ _ _ e => e
theorem Kp.trans {B : Addr → Prop} {H H1 H2 : Hp} (h : Kp B H H1) (k : Kp B H1 H2) : Kp B H H2 := fun b o hb e => k b o hb (h b o hb e)
theorem Kp.of {B : Addr → Prop} {H H' : Hp} (h : Same H H') : Kp B H H' := fun b o _ e => h b o e
theorem Kp.same {H H' : Hp} (h : Kp (fun _ => True) H H') : Same H H' := fun b o e => h b o trivial e
theorem same_new {H : Hp} {p : Addr} {o : HO} (h : H p = none) : Same H (upd H p o) := fun b u e => by
  rw [upd_ne (ne_of_none e h)]
  exact e
theorem Same.mut {H H' : Hp} {p : Addr} {o : HO} (e : Same H H') (h : H p = none) : Same H (upd H' p o) := fun b u q => by
  rw [upd_ne (ne_of_none q h)]
  exact e b u q
theorem Kp.mut {B : Addr → Prop} {H H' : Hp} {p : Addr} {o : HO} (e : Kp B H H') (h : ¬ B p) : Kp B H (upd H' p o) := fun b u hb q => by
  have n : b ≠ p := fun z => h (z ▸ hb)
  rw [upd_ne n]
  exact e b u hb q
theorem Kp.new {B : Addr → Prop} {H H' : Hp} {p : Addr} {o : HO} (e : Kp B H H') (h : H' p = none) : Kp B H (upd H' p o) := e.trans (Kp.of (same_new h))
theorem Kp.mutF {B : Addr → Prop} {H H' : Hp} {p : Addr} {o : HO} (e : Kp B H H') (h : H p = none) : Kp B H (upd H' p o) := fun b u hb q => by
  rw [upd_ne (ne_of_none q h)]
  exact e b u hb q
theorem Kp.none {B : Addr → Prop} {H H' : Hp} (e : Kp B H H') {p : Addr} (hb : B p) (h : H' p = none) : H p = none := by
  cases z : H p with
  | none => rfl
  | some x =>
    have := e _ _ hb z
    rw [h] at this
    cases this
theorem no_of {H : Hp} {a p : Addr} {o : HO} (h : H a = some o) (hp : H p = none) : p ≠ a := fun z => by
  rw [z, h] at hp
  cases hp
theorem same_none {H H' : Hp} (e : Same H H') {p : Addr} (h : H' p = none) : H p = none := e.free h
theorem ils {n : Nat} (h : n ≤ 100000) : n < sizeLine := Nat.lt_of_le_of_lt h (by decide)
theorem ile {n : Nat} (h : n ≤ 100000) : n ≤ sizeLine := Nat.le_of_lt (ils h)
theorem ints_at {ns : List Int} {i : Nat} {x : V} (h : (ns.map V.int)[i]? = some x) : ∃ n, ns[i]? = some n ∧ x = .int n := by
  rw [List.getElem?_map] at h
  cases e : ns[i]? with
  | none => rw [e] at h; cases h
  | some n => rw [e] at h; exact ⟨n, rfl, (Option.some.inj h).symm⟩
theorem refs_at {ts : List Addr} {i : Nat} {x : V} (h : (ts.map V.ref)[i]? = some x) : ∃ t, ts[i]? = some t ∧ x = .ref t := by
  rw [List.getElem?_map] at h
  cases e : ts[i]? with
  | none => rw [e] at h; cases h
  | some t => rw [e] at h; exact ⟨t, rfl, (Option.some.inj h).symm⟩
theorem at_lt {α : Type} {l : List α} {i : Nat} {x : α} (h : l[i]? = some x) : i < l.length := (List.getElem?_eq_some_iff.mp h).1
theorem at_some {α : Type} {l : List α} {i : Nat} (h : i < l.length) : ∃ x, l[i]? = some x := ⟨l[i], List.getElem?_eq_getElem h⟩
theorem take_snoc {α : Type} {l : List α} {i : Nat} {x : α} (h : l[i]? = some x) : l.take (i + 1) = l.take i ++ [x] := by
  rw [List.take_add_one, h]
  rfl
theorem take_full {α : Type} (l : List α) : l.take l.length = l := List.take_length
/-! ### a list of pairs of ints -/
structure GsAt (H : Hp) (B : Addr → Prop) (a : Addr) (ts : List Addr) (gs : List (Int × Int)) : Prop where
  top : H a = some (.lst (ts.map V.ref))
  ba : B a
  len : ts.length = gs.length
  at' : ∀ (i : Nat) (t : Addr) (g : Int × Int), ts[i]? = some t → gs[i]? = some g → H t = some (.tup [.int g.1, .int g.2])
  b : ∀ t ∈ ts, B t
theorem GsAt.keep {H H' : Hp} {B : Addr → Prop} {a : Addr} {ts : List Addr} {gs : List (Int × Int)} (h : GsAt H B a ts gs) (k : Kp B H H') : GsAt H' B a ts gs :=
  ⟨k _ _ h.ba h.top, h.ba, h.len, fun i t g e f => k _ _ (h.b t (List.mem_of_getElem? e)) (h.at' i t g e f), h.b⟩
theorem GsAt.same {H H' : Hp} {B : Addr → Prop} {a : Addr} {ts : List Addr} {gs : List (Int × Int)} (h : GsAt H B a ts gs) (k : Same H H') : GsAt H' B a ts gs := h.keep (.of k)
theorem GsAt.weaken {H : Hp} {B B' : Addr → Prop} {a : Addr} {ts : List Addr} {gs : List (Int × Int)} (h : GsAt H B a ts gs) (k : ∀ b, B b → B' b) : GsAt H B' a ts gs :=
  ⟨h.top, k _ h.ba, h.len, h.at', fun t m => k _ (h.b t m)⟩
theorem GsAt.seq {K : PySem.W.Frag} {H : Hp} {B : Addr → Prop} {a : Addr} {ts : List Addr} {gs : List (Int × Int)} (h : GsAt H B a ts gs) : SqL K H a (ts.map V.ref) := SqL.of h.top
theorem GsAt.get {H : Hp} {B : Addr → Prop} {a : Addr} {ts : List Addr} {gs : List (Int × Int)} (h : GsAt H B a ts gs) {i : Nat} {x : V} (e : (ts.map V.ref)[i]? = some x) : ∃ t g, x = .ref t ∧ gs[i]? = some g ∧ H t = some (.tup [.int g.1, .int g.2]) := by
  obtain ⟨t, e1, rfl⟩ := refs_at e
  have hi := at_lt e1
  rw [h.len] at hi
  obtain ⟨g, e2⟩ := at_some hi
  exact ⟨t, g, rfl, e2, h.at' i t g e1 e2⟩
/-- pushed -/
theorem GsAt.push {H : Hp} {B : Addr → Prop} {a : Addr} {ts : List Addr} {gs : List (Int × Int)} (h : GsAt H B a ts gs) (hn : a ∉ ts) {q : Addr} {g : Int × Int} (e : H q = some (.tup [.int g.1, .int g.2])) (bq : B q) :
    GsAt (upd H a (.lst (ts.map V.ref ++ [.ref q]))) B a (ts ++ [q]) (gs ++ [g]) := by
  refine ⟨?_, h.ba, ?_, fun i t x e1 e2 => ?_, fun t m => ?_⟩
  · rw [upd_same, List.map_append]
    rfl
  · rw [List.length_append, List.length_append, h.len]
    rfl
  · have nq : q ≠ a := fun z => by
      rw [z, h.top] at e
      cases e
    by_cases hi : i < ts.length
    · rw [List.getElem?_append_left hi] at e1
      rw [List.getElem?_append_left (by rw [← h.len]; exact hi)] at e2
      have nt : t ≠ a := fun z => hn (z ▸ List.mem_of_getElem? e1)
      rw [upd_ne nt]
      exact h.at' i t x e1 e2
    · have hi' : i = ts.length := by
        have := at_lt e1
        rw [List.length_append, List.length_singleton] at this
        omega
      subst hi'
      rw [List.getElem?_append_right (Nat.le_refl _), Nat.sub_self] at e1
      rw [h.len, List.getElem?_append_right (Nat.le_refl _), Nat.sub_self] at e2
      have e1' : q = t := Option.some.inj e1
      have e2' : g = x := Option.some.inj e2
      subst e1' e2'
      rw [upd_ne nq]
      exact e
  · rcases List.mem_append.mp m with m | m
    · exact h.b t m
    · rw [List.mem_singleton.mp m]
      exact bq
theorem GsAt.there {H : Hp} {B : Addr → Prop} {a : Addr} {ts : List Addr} {gs : List (Int × Int)} (h : GsAt H B a ts gs) : ∀ b, (b = a ∨ b ∈ ts) → ∃ x, H b = some x := fun b m => by
  rcases m with rfl | m
  · exact ⟨_, h.top⟩
  · obtain ⟨i, e⟩ := List.mem_iff_getElem?.mp m
    have hl := at_lt e
    rw [h.len] at hl
    obtain ⟨g, eg⟩ := at_some hl
    exact ⟨_, h.at' i b g e eg⟩
theorem GsAt.reB {H : Hp} {B B' : Addr → Prop} {a : Addr} {ts : List Addr} {gs : List (Int × Int)} (h : GsAt H B a ts gs) (k : ∀ b, (b = a ∨ b ∈ ts) → B b → B' b) : GsAt H B' a ts gs :=
  ⟨h.top, k _ (.inl rfl) h.ba, h.len, h.at', fun t m => k _ (.inr m) (h.b t m)⟩
/-- what stands in H and is named by B -/
def Liv (H : Hp) (B : Addr → Prop) (b : Addr) : Prop := (∃ x, H b = some x) ∧ B b
theorem GsAt.liv {H : Hp} {B : Addr → Prop} {a : Addr} {ts : List Addr} {gs : List (Int × Int)} (h : GsAt H B a ts gs) : GsAt H (Liv H B) a ts gs := h.reB fun b m hb => ⟨h.there b m, hb⟩
theorem Liv.no {H : Hp} {B : Addr → Prop} {p : Addr} (h : H p = none) : ¬ Liv H B p := fun ⟨⟨x, e⟩, _⟩ => by
  rw [h] at e
  cases e
theorem Liv.of {H : Hp} {B : Addr → Prop} {p : Addr} {o : HO} (h : H p = some o) (b : B p) : Liv H B p := ⟨⟨o, h⟩, b⟩
theorem Kp.weak {B B' : Addr → Prop} {H H' : Hp} (k : Kp B H H') (h : ∀ b, B' b → B b) : Kp B' H H' := fun b o hb e => k b o (h b hb) e
theorem Kp.liv {B : Addr → Prop} {H0 H H' : Hp} (k : Kp B H H') : Kp (Liv H0 B) H H' := k.weak fun _ h => h.2
/-! ### a list of lists of ints, each its own -/
structure RmsAt (H : Hp) (B : Addr → Prop) (o : Addr) (ts : List Addr) (rs : List (List Int)) : Prop where
  top : H o = some (.lst (ts.map V.ref))
  bo : B o
  nd : ts.Nodup
  no : o ∉ ts
  len : ts.length = rs.length
  at' : ∀ (i : Nat) (t : Addr) (r : List Int), ts[i]? = some t → rs[i]? = some r → H t = some (.lst (r.map V.int))
  b : ∀ t ∈ ts, B t
theorem RmsAt.keep {H H' : Hp} {B : Addr → Prop} {a : Addr} {ts : List Addr} {rs : List (List Int)} (h : RmsAt H B a ts rs) (k : Kp B H H') : RmsAt H' B a ts rs :=
  ⟨k _ _ h.bo h.top, h.bo, h.nd, h.no, h.len, fun i t g e f => k _ _ (h.b t (List.mem_of_getElem? e)) (h.at' i t g e f), h.b⟩
theorem RmsAt.same {H H' : Hp} {B : Addr → Prop} {a : Addr} {ts : List Addr} {rs : List (List Int)} (h : RmsAt H B a ts rs) (k : Same H H') : RmsAt H' B a ts rs := h.keep (.of k)
theorem RmsAt.weaken {H : Hp} {B B' : Addr → Prop} {a : Addr} {ts : List Addr} {rs : List (List Int)} (h : RmsAt H B a ts rs) (k : ∀ b, B b → B' b) : RmsAt H B' a ts rs :=
  ⟨h.top, k _ h.bo, h.nd, h.no, h.len, h.at', fun t m => k _ (h.b t m)⟩
theorem RmsAt.seq {K : PySem.W.Frag} {H : Hp} {B : Addr → Prop} {a : Addr} {ts : List Addr} {rs : List (List Int)} (h : RmsAt H B a ts rs) : SqL K H a (ts.map V.ref) := SqL.of h.top
theorem RmsAt.get {H : Hp} {B : Addr → Prop} {a : Addr} {ts : List Addr} {rs : List (List Int)} (h : RmsAt H B a ts rs) {i : Nat} {x : V} (e : (ts.map V.ref)[i]? = some x) : ∃ t r, x = .ref t ∧ ts[i]? = some t ∧ rs[i]? = some r ∧ H t = some (.lst (r.map V.int)) := by
  obtain ⟨t, e1, rfl⟩ := refs_at e
  have hi := at_lt e1
  rw [h.len] at hi
  obtain ⟨g, e2⟩ := at_some hi
  exact ⟨t, g, rfl, e1, e2, h.at' i t g e1 e2⟩
theorem RmsAt.of {H : Hp} {B : Addr → Prop} {a : Addr} {ts : List Addr} {rs : List (List Int)} (h : RmsAt H B a ts rs) {i : Nat} {r : List Int} (e : rs[i]? = some r) : ∃ t, ts[i]? = some t ∧ H t = some (.lst (r.map V.int)) := by
  have hi := at_lt e
  rw [← h.len] at hi
  obtain ⟨t, e2⟩ := at_some hi
  exact ⟨t, e2, h.at' i t r e2 e⟩
theorem RmsAt.nil {H : Hp} {B : Addr → Prop} {o : Addr} (h : H o = some (.lst [])) (bo : B o) : RmsAt H B o [] [] :=
  ⟨h, bo, List.nodup_nil, by simp, rfl, fun i t r e _ => by simp at e, fun t m => by simp at m⟩
/-- a new empty list behind -/
theorem RmsAt.push {H : Hp} {B : Addr → Prop} {o : Addr} {ts : List Addr} {rs : List (List Int)} (h : RmsAt H B o ts rs) {q : Addr} {r : List Int} (hq : H q = none) (bq : B q) :
    RmsAt (upd (upd H q (.lst (r.map V.int))) o (.lst (ts.map V.ref ++ [.ref q]))) B o (ts ++ [q]) (rs ++ [r]) := by
  have nq : q ≠ o := no_of h.top hq
  have nqt : ∀ t ∈ ts, q ≠ t := fun t m => by
    obtain ⟨i, hi⟩ := List.mem_iff_getElem?.mp m
    have hl := at_lt hi
    rw [h.len] at hl
    obtain ⟨r', er⟩ := at_some hl
    exact no_of (h.at' i t r' hi er) hq
  refine ⟨?_, h.bo, ?_, ?_, ?_, fun i t x e1 e2 => ?_, fun t m => ?_⟩
  · rw [upd_same, List.map_append]
    rfl
  · rw [List.nodup_append]
    exact ⟨h.nd, by simp, fun a ha b hb => by
      rw [List.mem_singleton.mp hb]
      exact (nqt a ha).symm⟩
  · intro m
    rcases List.mem_append.mp m with m | m
    · exact h.no m
    · exact nq (List.mem_singleton.mp m).symm
  · rw [List.length_append, List.length_append, h.len]
    rfl
  · by_cases hi : i < ts.length
    · rw [List.getElem?_append_left hi] at e1
      rw [List.getElem?_append_left (by rw [← h.len]; exact hi)] at e2
      have nt : t ≠ o := fun z => h.no (z ▸ List.mem_of_getElem? e1)
      rw [upd_ne nt, upd_ne (nqt t (List.mem_of_getElem? e1)).symm]
      exact h.at' i t x e1 e2
    · have hi' : i = ts.length := by
        have := at_lt e1
        rw [List.length_append, List.length_singleton] at this
        omega
      subst hi'
      rw [List.getElem?_append_right (Nat.le_refl _), Nat.sub_self] at e1
      rw [h.len, List.getElem?_append_right (Nat.le_refl _), Nat.sub_self] at e2
      have e1' : q = t := Option.some.inj e1
      have e2' : r = x := Option.some.inj e2
      subst e1' e2'
      rw [upd_ne nq, upd_same]
  · rcases List.mem_append.mp m with m | m
    · exact h.b t m
    · rw [List.mem_singleton.mp m]
      exact bq
/-- one of them changed -/
theorem RmsAt.set {H : Hp} {B : Addr → Prop} {o : Addr} {ts : List Addr} {rs : List (List Int)} (h : RmsAt H B o ts rs) {i : Nat} {t : Addr} (e : ts[i]? = some t) (r : List Int) :
    RmsAt (upd H t (.lst (r.map V.int))) B o ts (rs.set i r) := by
  have nt : t ≠ o := fun z => h.no (z ▸ List.mem_of_getElem? e)
  refine ⟨?_, h.bo, h.nd, h.no, ?_, fun j u x e1 e2 => ?_, h.b⟩
  · rw [upd_ne nt.symm]
    exact h.top
  · rw [List.length_set]
    exact h.len
  · by_cases hj : j = i
    · subst hj
      have e' : u = t := Option.some.inj (e1.symm.trans e)
      subst e'
      rw [upd_same]
      have hl := at_lt e1
      rw [h.len] at hl
      rw [List.getElem?_set_self hl] at e2
      have : r = x := Option.some.inj e2
      rw [this]
    · rw [List.getElem?_set_ne (fun z => hj z.symm)] at e2
      have hut : u ≠ t := fun z => by
        subst z
        exact hj (nd_ix h.nd e1 e)
      rw [upd_ne hut]
      exact h.at' j u x e1 e2
theorem RmsAt.newTop {H H' : Hp} {B B' : Addr → Prop} {o : Addr} {ts : List Addr} {rs : List (List Int)} (h : RmsAt H B o ts rs) (k : ∀ b u, (b = o ∨ b ∈ ts) → H b = some u → H' b = some u) (kb : ∀ b, (b = o ∨ b ∈ ts) → B' b) : RmsAt H' B' o ts rs :=
  ⟨k _ _ (.inl rfl) h.top, kb _ (.inl rfl), h.nd, h.no, h.len, fun i t r e f => k _ _ (.inr (List.mem_of_getElem? e)) (h.at' i t r e f), fun t m => kb t (.inr m)⟩
/-! ### the dict of patience -/
def pks (gs : List (Int × Int)) : List (L2.Key × V) := gs.map fun g => (Sum.inl g.1, V.int g.2)
theorem pks_len (gs : List (Int × Int)) : (pks gs).length = gs.length := List.length_map _
theorem pks_keys (gs : List (Int × Int)) : (pks gs).map (·.1) = (gs.map (·.1)).map Sum.inl := by
  unfold pks
  rw [List.map_map, List.map_map]
  rfl
theorem pks_snoc (gs : List (Int × Int)) (g : Int × Int) : pks (gs ++ [g]) = pks gs ++ [(Sum.inl g.1, V.int g.2)] := List.map_append
theorem pks_none {gs : List (Int × Int)} {a : Int} (h : a ∉ gs.map (·.1)) : valV (pks gs) (Sum.inl a) = none := by
  induction gs with
  | nil => rfl
  | cons g gs ih =>
    have h' : ¬ (a = g.1 ∨ a ∈ gs.map (·.1)) := fun z => h (by rw [List.map_cons]; exact List.mem_cons.mpr z)
    have n : ¬ (Sum.inl g.1 : L2.Key) = Sum.inl a := fun z => h' (.inl (Sum.inl.inj z).symm)
    show valV ((Sum.inl g.1, V.int g.2) :: pks gs) (Sum.inl a) = none
    rw [valV_neg n]
    exact ih fun z => h' (.inr z)
theorem pks_some : ∀ {gs : List (Int × Int)} {g : Int × Int}, (gs.map (·.1)).Nodup → g ∈ gs → valV (pks gs) (Sum.inl g.1) = some (.int g.2)
  | x :: gs, g, nd, h => by
    have nd' : (x.1 :: gs.map (·.1)).Nodup := nd
    obtain ⟨n1, n2⟩ := List.nodup_cons.mp nd'
    show valV ((Sum.inl x.1, V.int x.2) :: pks gs) (Sum.inl g.1) = some (.int g.2)
    rcases List.mem_cons.mp h with e | h
    · subst e
      rw [valV_pos rfl]
    · have n : ¬ (Sum.inl x.1 : L2.Key) = Sum.inl g.1 := fun z => n1 (by
        rw [Sum.inl.inj z]
        exact List.mem_map.mpr ⟨g, h, rfl⟩)
      rw [valV_neg n]
      exact pks_some n2 h
theorem putK_snoc {gs : List (Int × Int)} {g : Int × Int} (h : g.1 ∉ gs.map (·.1)) : putK (pks gs) (Sum.inl g.1) (V.int g.2) = pks (gs ++ [g]) := by
  rw [putK_new _ (pks_none h), pks_snoc]
theorem Fit.take_no {gs : List (Int × Int)} (f : Fit gs) {i : Nat} {g : Int × Int} (h : gs[i]? = some g) : g.1 ∉ (gs.take i).map (·.1) := by
  intro m
  have e : gs = gs.take i ++ g :: gs.drop (i + 1) := by
    have hl := at_lt h
    have e2 : gs[i] = g := by
      rw [List.getElem?_eq_getElem hl] at h
      exact Option.some.inj h
    rw [← e2, List.getElem_cons_drop, List.take_append_drop]
  have nd := f.nd
  rw [e, List.map_append, List.nodup_append] at nd
  exact nd.2.2 _ m g.1 (by rw [List.map_cons]; exact List.mem_cons_self) rfl
/-! ### rules by a written part that is named (for what stands in a comprehension) -/
section
variable {X : Cx}
theorem lenK (K : PySem.W.Frag) (e : X.K = K := by rfl) : CallR X (.builtin "len") (fun xs H Q => ∃ p ys, xs = [.ref p] ∧ (SqL K H p ys ∨ SqT K H p ys) ∧ Q (.int ys.length) H) := by
  subst e
  exact call_len_seq
theorem ixlK (K : PySem.W.Frag) (e : X.K = K := by rfl) : IxR X (rIxL K) := by
  subst e
  exact ix_list
theorem ixtK (K : PySem.W.Frag) (e : X.K = K := by rfl) : IxR X (rIxT K) := by
  subst e
  exact ix_tup
theorem sllK (K : PySem.W.Frag) (e : X.K = K := by rfl) : SlR X (rSlL K) := by
  subst e
  exact sl_list
theorem eqDK (K : PySem.W.Frag) (hu : X.A.units + 64 < cLine) (e : X.K = K := by rfl) : OpR X (compareOp .Eq) (rEqD K) := by
  subst e
  exact op_eqD hu
theorem neDK (K : PySem.W.Frag) (hu : X.A.units + 64 < cLine) (e : X.K = K := by rfl) : OpR X (compareOp .NotEq) (rNeD K) := by
  subst e
  exact op_neD hu
theorem isiK (K : PySem.W.Frag) (e : X.K = K := by rfl) : CallR X (.builtin "isinstance") (rIsi K) := by
  subst e
  exact call_isi
theorem sumK (K : PySem.W.Frag) (hc : X.calm = true) (e : X.K = K := by rfl) : CallR X (.builtin "sum") (rSum K) := by
  subst e
  exact cr_sum hc
theorem inK (K : PySem.W.Frag) (e : X.K = K := by rfl) : OpR X (compareOp .In) (rIn K false) := by
  subst e
  exact op_in_seq
theorem notInK (K : PySem.W.Frag) (e : X.K = K := by rfl) : OpR X (compareOp .NotIn) (rIn K true) := by
  subst e
  exact op_notIn_seq
theorem listOfK (K : PySem.W.Frag) (e : X.K = K := by rfl) : CallR X (.type "list") (fun xs H Q => ∃ p ys, xs = [.ref p] ∧ (SqL K H p ys ∨ SqT K H p ys) ∧ ∀ l, H l = none → Q (.ref l) (upd H l (.lst ys))) := by
  subst e
  exact call_list_of
theorem pgTupK {es : List Expr} {k : Nat} {t : TGs} {pos : Pos} (K : PySem.W.Frag) (n : Nat) (hc : X.calm = true) (h : PGs X es t)
    (hn : (assignEach es X.env).length = n := by rfl) (hst : (assignEach es X.env).findIdx? (·.1) = none := by rfl) (e : X.K = K := by rfl) : PG X (.Tuple es k pos) (gTup K n t) := by
  subst e
  exact pg_tup hc h hn hst
theorem bmK {T : String} {name : Str} {id : String} {o e : Expr} {es : List Expr} {to : TE} {t : TA} {apos cpos : Pos} {r : V → List V → Hp → VK → Prop} (K : PySem.W.Frag) (pa : PlainAttrs T) (slot : Slot T name id) (hty : typeOf (.builtin id) = pure (.type "method_descriptor")) (hm : MtR X id r) (ho : PE X o to) (ha : PA X (e :: es) t)
    (hbase : attributeBase o name X.env (eval o X.env) = eval o X.env := by rfl)
    (hfew : ((backTo cpos (starEach (e :: es) X.env)).all (fun x => !x.1) && (backToKw cpos (keywordEach [] X.env)).all (fun x => x.1.isSome)
      && decide ((e :: es).length + ([] : List Keyword).length + (if ([] : List Keyword).isEmpty then 0 else 1) < 30)) = true := by rfl)
    (hline : (apos.endLine == cpos.line) = true := by rfl) (hs : starEach (e :: es) X.env = (false, eval e X.env) :: starEach es X.env := by rfl) (hplain : (backTo cpos (starEach es X.env)).any (·.1) = false := by rfl) (eK : X.K = K := by rfl) :
    PE X (.Call (.Attribute o name apos) (e :: es) [] cpos) (tBM K T r to t) := by
  subst eK
  exact pe_bm pa slot hty hm ho ha hbase hfew hline hs hplain
end
/-! ### cuts: what holds between two parts of a body -/
section
variable {σ : L2.St} {H : Hp} {D : Ends} {c : TT} {t u tb : TS}
theorem while_to (W : Nat → L2.St → Hp → Prop) (E : L2.St → Hp → Prop) (h0 : ∃ m, W m σ H) (hd : ∀ σ H, E σ H → D.nx σ H)
    (hs : ∀ X : L2.St → Hp → Prop, (∀ σ H, E σ H → X σ H) → ∀ m σ H, W m σ H → c σ H fun b H1 => if b = true then ∃ N : L2.St → Hp → Prop, (∀ σ' H', N σ' H' → ∃ m', m' < m ∧ W m' σ' H') ∧ tb { D with nx := N, ct := N, bk := X } σ H1 else X σ H1) : tWhile c tb D σ H := ⟨W, h0, hs D.nx hd⟩
theorem seq_to (E : L2.St → Hp → Prop) (h1 : ∀ X : L2.St → Hp → Prop, (∀ σ H, E σ H → X σ H) → t { D with nx := X } σ H) (h2 : ∀ σ H, E σ H → u D σ H) : tSeq t u D σ H := h1 (u D) h2
theorem seq_set {i : Nat} {v : V} (h : u D (σ.set i (some v)) H) : tSeq (tAsg (tC v) (gName i)) u D σ H := h
theorem st_to (E : L2.St → Hp → Prop) (h1 : ∀ X : L2.St → Hp → Prop, (∀ σ H, E σ H → X σ H) → t { D with nx := X } σ H) (h2 : ∀ σ H, E σ H → D.nx σ H) : t D σ H := h1 D.nx h2
end
theorem ixN_of {n j : Nat} (hj : j < n) : ixN n (j : Int) = some j := by
  unfold ixN
  rw [if_pos (by omega), if_pos (by omega), Int.toNat_natCast]
theorem seq_ix {n j : Nat} (hj : j < n) : seqIndex? (j : Int) n = some j := (ixN_seq (ixN_of hj)).1
theorem at_pick {xs : List V} {r : Int} (h0 : 0 ≤ r) (h1 : r < xs.length) : ∃ v, atI xs r = some v ∧ v ∈ xs := by
  obtain ⟨k, rfl⟩ : ∃ k : Nat, r = k := ⟨r.toNat, by omega⟩
  obtain ⟨v, e⟩ := at_some (show k < xs.length by omega)
  exact ⟨v, atI_nat e, List.mem_of_getElem? e⟩
theorem erase_perm {α : Type} : ∀ {l : List α} {k : Nat} {x : α}, l[k]? = some x → (x :: l.eraseIdx k).Perm l
  | [], _, _, h => by simp at h
  | a :: l, 0, x, h => by
    obtain rfl : a = x := Option.some.inj h
    exact List.Perm.refl _
  | a :: l, k + 1, x, h => by
    have ih := erase_perm (l := l) (k := k) (x := x) (by simpa using h)
    exact (List.Perm.swap a x (l.eraseIdx k)).trans (ih.cons a)
/-! ### data -/
def dInts (ns : List Int) : PyData := .list (ns.map .int)
def dGs (gs : List (Int × Int)) : PyData := .list (gs.map fun g => .tuple [.int g.1, .int g.2])
def dRows (rs : List (List Int)) : PyData := .list (rs.map dInts)
theorem canAll : ∀ {xs : List PyData}, (∀ x ∈ xs, x.canLay0 = true) → PyData.canLayAll0 xs = true
  | [], _ => by simp [PyData.canLayAll0]
  | x :: xs, h => by
    rw [PyData.canLayAll0, h x List.mem_cons_self, canAll fun y hy => h y (List.mem_cons_of_mem _ hy)]
    rfl
theorem depAll {n : Nat} : ∀ {xs : List PyData}, (∀ x ∈ xs, x.depth ≤ n) → PyData.depthAll xs ≤ n
  | [], _ => by simp [PyData.depthAll]
  | x :: xs, h => by
    rw [PyData.depthAll]
    exact Nat.max_le.mpr ⟨h x List.mem_cons_self, depAll fun y hy => h y (List.mem_cons_of_mem _ hy)⟩
structure Oks (n : Nat) (d : PyData) : Prop where
  can : d.canLay0 = true
  dep : d.depth ≤ n
theorem Oks.int (i : Int) : Oks 0 (.int i) := ⟨by simp [PyData.canLay0], by simp [PyData.depth]⟩
theorem Oks.mono {n m : Nat} {d : PyData} (h : Oks n d) (k : n ≤ m) : Oks m d := ⟨h.can, Nat.le_trans h.dep k⟩
theorem Oks.lst {n : Nat} {xs : List PyData} (h : ∀ x ∈ xs, Oks n x) : Oks (n + 1) (.list xs) := ⟨by rw [PyData.canLay0]; exact canAll fun x m => (h x m).can, by rw [PyData.depth]; exact Nat.succ_le_succ (depAll fun x m => (h x m).dep)⟩
theorem Oks.tup {n : Nat} {xs : List PyData} (h : ∀ x ∈ xs, Oks n x) : Oks (n + 1) (.tuple xs) := ⟨by rw [PyData.canLay0]; exact canAll fun x m => (h x m).can, by rw [PyData.depth]; exact Nat.succ_le_succ (depAll fun x m => (h x m).dep)⟩
theorem Oks.ints (ns : List Int) : Oks 1 (dInts ns) := .lst fun x m => by
  obtain ⟨n, _, rfl⟩ := List.mem_map.mp m
  exact .int n
theorem Oks.gs (gs : List (Int × Int)) : Oks 2 (dGs gs) := .lst fun x m => by
  obtain ⟨g, _, rfl⟩ := List.mem_map.mp m
  refine .tup fun y hy => ?_
  rcases List.mem_cons.mp hy with rfl | hy
  · exact .int _
  · rw [List.mem_singleton.mp hy]
    exact .int _
theorem Oks.rows (rs : List (List Int)) : Oks 2 (dRows rs) := .lst fun x m => by
  obtain ⟨r, _, rfl⟩ := List.mem_map.mp m
  exact .ints r
theorem Oks.shaped {n : Nat} {d : PyData} (h : Oks n d) (k : n ≤ 64 := by decide) : SeqAt.shaped d = true := by
  unfold SeqAt.shaped
  rw [h.can, decide_eq_true (Nat.le_trans h.dep k)]
  rfl
theorem Oks.eqv {n : Nat} {d : PyData} (h : Oks n d) : PyData.eqv d d = true := SeqAt.eqv_refl d h.can
theorem dp_ints {K : PySem.W.Frag} {H : Hp} {ns : List Int} : DpAll K H (ns.map V.int) (ns.map .int) := by
  induction ns with
  | nil => exact .nil
  | cons n ns ih => exact .cons (.int n) ih
theorem Dp.ints {K : PySem.W.Frag} {H : Hp} {a : Addr} {ns : List Int} (h : H a = some (.lst (ns.map V.int))) : Dp K H (.ref a) (dInts ns) := .lst (SqL.of h) dp_ints
theorem dpAll_of {K : PySem.W.Frag} {H : Hp} : ∀ {vs : List V} {ds : List PyData}, vs.length = ds.length → (∀ (i : Nat) (v : V) (d : PyData), vs[i]? = some v → ds[i]? = some d → Dp K H v d) → DpAll K H vs ds
  | [], [], _, _ => .nil
  | v :: vs, d :: ds, hl, h => .cons (h 0 v d rfl rfl) (dpAll_of (by simpa using hl) fun i v d e f => h (i + 1) v d (by simpa using e) (by simpa using f))
  | [], _ :: _, hl, _ => by simp at hl
  | _ :: _, [], hl, _ => by simp at hl
theorem GsAt.dp {K : PySem.W.Frag} {H : Hp} {B : Addr → Prop} {a : Addr} {ts : List Addr} {gs : List (Int × Int)} (h : GsAt H B a ts gs) : Dp K H (.ref a) (dGs gs) := by
  refine .lst h.seq (dpAll_of (by rw [List.length_map, List.length_map, h.len]) fun i v d e f => ?_)
  obtain ⟨t, g, rfl, eg, et⟩ := h.get e
  rw [List.getElem?_map, eg] at f
  obtain rfl := Option.some.inj f
  exact .tup (SqT.of et) (.cons (.int _) (.cons (.int _) .nil))
theorem RmsAt.dp {K : PySem.W.Frag} {H : Hp} {B : Addr → Prop} {a : Addr} {ts : List Addr} {rs : List (List Int)} (h : RmsAt H B a ts rs) : Dp K H (.ref a) (dRows rs) := by
  refine .lst h.seq (dpAll_of (by rw [List.length_map, List.length_map, h.len]) fun i v d e f => ?_)
  obtain ⟨t, r, rfl, _, er, et⟩ := h.get e
  rw [List.getElem?_map, er] at f
  obtain rfl := Option.some.inj f
  exact Dp.ints et
theorem eqv_nil (gs : List Int) : PyData.eqv (dInts gs) (dInts []) = gs.isEmpty := by
  cases gs with
  | nil => rfl
  | cons x r => rfl
theorem relTy (n : String) : RelV (.ty n) (.type n) := rfl
theorem FnOk.or {P : Program} {w : World} {K : PySem.W.Frag} {mg : Str → Option Value} {base : Heap} {CX : CXT} {k : Nat} {f : Addr} {fd : FuncData} {ps : List Str} {sp sp' : Sp} (F : FnOk P w K mg base CX k f fd ps sp) (F' : FnOk P w K mg base CX k f fd ps sp') :
    FnOk P w K mg base CX k f fd ps (fun vs H Q E => sp vs H Q E ∨ sp' vs H Q E) :=
  ⟨fun vs H Q E h => h.elim (F.len vs H Q E) (F'.len vs H Q E), fun A outer s H args us vs Q E hr e0 hb r h => h.elim (F.run A outer s H args us vs Q E hr e0 hb r) (F'.run A outer s H args us vs Q E hr e0 hb r)⟩
/-! ### built-ins by their names -/
structure Bi (mg : Str → Option Value) : Prop where
  len : mg "len" = none
  range : mg "range" = none
  enumerate : mg "enumerate" = none
  sorted : mg "sorted" = none
  sum : mg "sum" = none
  min : mg "min" = none
  max : mg "max" = none
  isinstance : mg "isinstance" = none
  zip : mg "zip" = none
  list_ : mg "list" = none
  tuple_ : mg "tuple" = none
  int_ : mg "int" = none
  bool_ : mg "bool" = none
  str_ : mg "str" = none
  abs : mg "abs" = none
  repr : mg "repr" = none
  dict_ : mg "dict" = none
  any : mg "any" = none
  all : mg "all" = none
  set_ : mg "set" = none
  reversed : mg "reversed" = none
  ValueError_ : mg "ValueError" = none
  divmod : mg "divmod" = none
end El
namespace El
open PySem PySem.Spec PyProof.Rows L2
/-- how many live in each -/
def lens (rs : List (List Int)) : List Int := rs.map fun r => (r.length : Int)
theorem lens_length (rs : List (List Int)) : (lens rs).length = rs.length := List.length_map _
theorem lens_at {rs : List (List Int)} {i : Nat} {r : List Int} (h : rs[i]? = some r) : (lens rs)[i]? = some (r.length : Int) := by
  unfold lens
  rw [List.getElem?_map, h]
  rfl
theorem cut_to (xs : List V) (j : Nat) : cutV xs none (some (j : Int)) = xs.take j := by
  unfold cutV
  rw [HT.sIx_none, HT.sIx_nat]
  show (List.drop 0 xs).take (min j xs.length - 0) = _
  rw [List.drop_zero, Nat.sub_zero, ← List.take_eq_take_min]
/-- the pair that stands at a value -/
def prOf (H : Hp) : V → Int × Int
  | .ref t => match H t with
    | some (.tup [.int i, .int j]) => (i, j)
    | _ => (0, 0)
  | _ => (0, 0)
theorem prOf_is {H : Hp} {t : Addr} {g : Int × Int} (h : H t = some (.tup [.int g.1, .int g.2])) : prOf H (.ref t) = g := by
  show (match H t with
    | some (.tup [.int i, .int j]) => (i, j)
    | _ => (0, 0)) = g
  rw [h]
theorem GsAt.prs {H : Hp} {B : Addr → Prop} {a : Addr} {ts : List Addr} {gs : List (Int × Int)} (h : GsAt H B a ts gs) : (ts.map V.ref).map (prOf H) = gs := by
  refine List.ext_getElem? fun i => ?_
  rw [List.getElem?_map]
  cases e : (ts.map V.ref)[i]? with
  | none =>
    have hl : (ts.map V.ref).length ≤ i := List.getElem?_eq_none_iff.mp e
    rw [List.length_map, h.len] at hl
    rw [List.getElem?_eq_none_iff.mpr hl]
    rfl
  | some x =>
    obtain ⟨t, g, rfl, eg, et⟩ := h.get e
    rw [eg]
    show some (prOf H (.ref t)) = some g
    rw [prOf_is et]
theorem GsAt.mem {H : Hp} {B : Addr → Prop} {a : Addr} {ts : List Addr} {gs : List (Int × Int)} (h : GsAt H B a ts gs) : ∀ x ∈ ts.map V.ref, ∃ t, x = V.ref t ∧ H t = some (.tup [.int (prOf H x).1, .int (prOf H x).2]) := fun x m => by
  obtain ⟨i, e⟩ := List.mem_iff_getElem?.mp m
  obtain ⟨t, g, rfl, eg, et⟩ := h.get e
  refine ⟨t, rfl, ?_⟩
  rw [prOf_is et]
  exact et
theorem sorted_prs {k : V → Int × Int} {ys xs : List V} {gs : List (Int × Int)} (f : Fit gs) (hx : xs.map k = gs) (hs : SrtO.Srtd (ltP k) ys) (hb : SrtO.Stb (ltP k) ys xs) : ys.reverse.map k = byAge gs := by
  refine byAge_of f ?_ ?_
  · rw [← hx]
    exact ((List.reverse_perm ys).trans hb.perm).map k
  · rw [List.map_reverse, List.pairwise_reverse, List.pairwise_map]
    refine hs.imp fun {a b} h => ?_
    have h' : SrtO.lexB (k b) (k a) = false := h
    rw [SrtO.lexB_no] at h'
    omega
theorem cut_1 (xs : List V) : cutV xs (some 1) none = xs.drop 1 := by
  unfold cutV
  rw [show HT.sIx xs.length 0 (some 1) = min 1 xs.length from HT.sIx_nat xs.length 0 1, HT.sIx_none]
  cases xs with
  | nil => rfl
  | cons x r =>
    rw [show min 1 (x :: r).length = 1 by
      rw [List.length_cons]
      omega]
    show (List.take ((x :: r).length - 1) r) = r
    rw [List.length_cons, Nat.add_sub_cancel]
    exact List.take_length
theorem lens_falls {gs : List (Int × Int)} (f : Fit gs) {i : Nat} {x y : Int} (h1 : (lens (settle gs))[i]? = some x) (h2 : ((lens (settle gs)).drop 1)[i]? = some y) : ¬ x < y := by
  rw [List.getElem?_drop] at h2
  unfold lens at h1 h2
  rw [List.getElem?_map] at h1 h2
  have hp := settleL_falls (byAge gs) f.byAge.pos
  cases e1 : (settle gs)[i]? with
  | none => rw [e1] at h1; cases h1
  | some r =>
    cases e2 : (settle gs)[1 + i]? with
    | none => rw [e2] at h2; cases h2
    | some s =>
      rw [e1] at h1
      rw [e2] at h2
      obtain rfl : (r.length : Int) = x := Option.some.inj h1
      obtain rfl : (s.length : Int) = y := Option.some.inj h2
      obtain ⟨l1, q1⟩ := List.getElem?_eq_some_iff.mp (show (settleL (byAge gs))[i]? = some r from e1)
      obtain ⟨l2, q2⟩ := List.getElem?_eq_some_iff.mp (show (settleL (byAge gs))[1 + i]? = some s from e2)
      have := List.pairwise_iff_getElem.mp hp i (1 + i) l1 l2 (by omega)
      rw [q1, q2] at this
      omega
theorem dget_pks {H : Hp} {d : Addr} {gs : List (Int × Int)} {g : Int × Int} (h : H d = some (.dK (pks gs))) (f : Fit gs) (m : g ∈ gs) : DGet H d (.int g.1) (some (.int g.2)) := by
  have q := DGet.k (k := Sum.inl g.1) h
  rw [pks_some f.nd m] at q
  exact q
theorem log_lt {m : Int} {k : Nat} (h0 : 0 < m) (h : m < 2 ^ k) : m.natAbs.log2 < k := by
  obtain ⟨j, rfl⟩ : ∃ j : Nat, m = j := ⟨m.toNat, by omega⟩
  have h' : j < 2 ^ k := by exact_mod_cast h
  rw [Int.natAbs_natCast]
  exact (Nat.log2_lt (by omega)).mpr h'
theorem GsAt.mix {H : Hp} {B B' : Addr → Prop} {a m : Addr} {ts : List Addr} {gs : List (Int × Int)} {ys : List V} (h : GsAt H B a ts gs) (e : H m = some (.lst ys)) (bm : B' m) (hb : ∀ b, B b → B' b) (p : ys.Perm (ts.map V.ref)) :
    ∃ ts' gs', GsAt H B' m ts' gs' ∧ gs'.Perm gs := by
  have hm : ∀ y ∈ ys, ∃ t, y = V.ref t ∧ t ∈ ts := fun y hy => by
    obtain ⟨t, ht, rfl⟩ := List.mem_map.mp (p.mem_iff.mp hy)
    exact ⟨t, rfl, ht⟩
  obtain ⟨us, rfl, hu⟩ : ∃ us : List Addr, ys = us.map V.ref ∧ ∀ u ∈ us, u ∈ ts := by
    clear p e
    induction ys with
    | nil => exact ⟨[], rfl, fun u hu => absurd hu (by simp)⟩
    | cons y ys ih =>
      obtain ⟨t, rfl, ht⟩ := hm y List.mem_cons_self
      obtain ⟨us, rfl, hu⟩ := ih fun z hz => hm z (List.mem_cons_of_mem _ hz)
      exact ⟨t :: us, rfl, fun u h => by
        rcases List.mem_cons.mp h with rfl | h
        · exact ht
        · exact hu u h⟩
  refine ⟨us, (us.map V.ref).map (prOf H), ⟨e, bm, by rw [List.length_map, List.length_map], fun i t g e1 e2 => ?_, fun t ht => hb t (h.b t (hu t ht))⟩, ?_⟩
  · rw [List.getElem?_map, List.getElem?_map, e1] at e2
    have e2' : prOf H (.ref t) = g := Option.some.inj e2
    obtain ⟨j, ej⟩ := List.mem_iff_getElem?.mp (hu t (List.mem_of_getElem? e1))
    obtain ⟨t', g', e3, eg, et⟩ := h.get (i := j) (x := .ref t) (by rw [List.getElem?_map, ej]; rfl)
    injection e3 with e3
    subst e3
    rw [prOf_is et] at e2'
    rw [← e2']
    exact et
  · have := p.map (prOf H)
    rw [h.prs] at this
    exact this
/-- put in anywhere -/
theorem GsAt.ins {H : Hp} {B : Addr → Prop} {a : Addr} {ts : List Addr} {gs : List (Int × Int)} {ys : List V} (h : GsAt H B a ts gs) (hn : a ∉ ts) {q : Addr} {g : Int × Int} (e : H q = some (.tup [.int g.1, .int g.2])) (bq : B q) (p : ys.Perm (ts.map V.ref ++ [.ref q])) :
    ∃ ts' gs', GsAt (upd H a (.lst ys)) B a ts' gs' ∧ gs'.Perm (gs ++ [g]) ∧ a ∉ ts' ∧ ys = ts'.map V.ref := by
  have nq : q ≠ a := fun z => by
    rw [z, h.top] at e
    cases e
  have hm : ∀ y ∈ ys, ∃ t, y = V.ref t ∧ t ∈ ts ++ [q] := fun y hy => by
    rcases List.mem_append.mp (p.mem_iff.mp hy) with m | m
    · obtain ⟨t, ht, rfl⟩ := List.mem_map.mp m
      exact ⟨t, rfl, List.mem_append_left _ ht⟩
    · exact ⟨q, List.mem_singleton.mp m, List.mem_append_right _ (List.mem_singleton.mpr rfl)⟩
  obtain ⟨us, rfl, hu⟩ : ∃ us : List Addr, ys = us.map V.ref ∧ ∀ u ∈ us, u ∈ ts ++ [q] := by
    clear p
    induction ys with
    | nil => exact ⟨[], rfl, fun u hu => absurd hu (by simp)⟩
    | cons y ys ih =>
      obtain ⟨t, rfl, ht⟩ := hm y List.mem_cons_self
      obtain ⟨us, rfl, hu⟩ := ih fun z hz => hm z (List.mem_cons_of_mem _ hz)
      exact ⟨t :: us, rfl, fun u h => by
        rcases List.mem_cons.mp h with rfl | h
        · exact ht
        · exact hu u h⟩
  have ha : ∀ u ∈ us, u ≠ a ∧ B u ∧ ∃ x : Int × Int, H u = some (.tup [.int x.1, .int x.2]) := fun u m => by
    rcases List.mem_append.mp (hu u m) with m | m
    · obtain ⟨j, ej⟩ := List.mem_iff_getElem?.mp m
      obtain ⟨t', g', e3, eg, et⟩ := h.get (i := j) (x := .ref u) (by rw [List.getElem?_map, ej]; rfl)
      injection e3 with e3
      subst e3
      exact ⟨fun z => hn (z ▸ m), h.b u m, g', et⟩
    · rw [List.mem_singleton.mp m]
      exact ⟨nq, bq, g, e⟩
  refine ⟨us, (us.map V.ref).map (prOf H), ⟨upd_same, h.ba, by rw [List.length_map, List.length_map], fun i t x e1 e2 => ?_, fun t m => (ha t m).2.1⟩, ?_, fun m => (ha a m).1 rfl, rfl⟩
  · rw [List.getElem?_map, List.getElem?_map, e1] at e2
    have e2' : prOf H (.ref t) = x := Option.some.inj e2
    obtain ⟨n1, _, y, ey⟩ := ha t (List.mem_of_getElem? e1)
    rw [prOf_is ey] at e2'
    subst e2'
    rw [upd_ne n1]
    exact ey
  · have := p.map (prOf H)
    rw [List.map_append, h.prs] at this
    rw [show [V.ref q].map (prOf H) = [g] by show [prOf H (.ref q)] = [g]; rw [prOf_is e]] at this
    exact this
theorem GsAt.cat {H : Hp} {B : Addr → Prop} {a l : Addr} {ts : List Addr} {gs : List (Int × Int)} (h : GsAt H B a ts gs) {q : Addr} {g : Int × Int} (e : H q = some (.tup [.int g.1, .int g.2])) (el : H l = some (.lst (ts.map V.ref ++ [.ref q]))) :
    GsAt H (fun _ => True) l (ts ++ [q]) (gs ++ [g]) := by
  refine ⟨by rw [List.map_append]; exact el, trivial, by rw [List.length_append, List.length_append, h.len]; rfl, fun i t x e1 e2 => ?_, fun _ _ => trivial⟩
  by_cases hi : i < ts.length
  · rw [List.getElem?_append_left hi] at e1
    rw [List.getElem?_append_left (by rw [← h.len]; exact hi)] at e2
    exact h.at' i t x e1 e2
  · have hi' : i = ts.length := by
      have := at_lt e1
      rw [List.length_append, List.length_singleton] at this
      omega
    subst hi'
    rw [List.getElem?_append_right (Nat.le_refl _), Nat.sub_self] at e1
    rw [h.len, List.getElem?_append_right (Nat.le_refl _), Nat.sub_self] at e2
    obtain rfl : q = t := Option.some.inj e1
    obtain rfl : g = x := Option.some.inj e2
    exact e
theorem inV_ints (x : Int) (ns : List Int) : inV (.int x) (ns.map V.int) = decide (x ∈ ns) := by
  unfold inV
  rw [List.any_map]
  induction ns with
  | nil => rfl
  | cons n ns ih =>
    rw [List.any_cons, ih]
    have e : ((fun y => eqV y (V.int x)) ∘ V.int) n = decide (x = n) := by
      show eqV (.int n) (.int x) = decide (x = n)
      have e2 : eqV (.int n) (.int x) = decide (n = x) := by
        unfold eqV
        first | rfl | simp
      rw [e2]
      by_cases h : n = x
      · subst h; simp
      · rw [decide_eq_false h, decide_eq_false (fun z => h z.symm)]
    rw [e]
    by_cases h : x = n
    · subst h
      simp
    · rw [decide_eq_false h, Bool.false_or]
      by_cases h2 : x ∈ ns
      · rw [decide_eq_true h2, decide_eq_true (List.mem_cons_of_mem _ h2)]
      · rw [decide_eq_false h2, decide_eq_false (fun z => (List.mem_cons.mp z).elim h h2)]
theorem flat_ints (ns : List Int) : (ns.map V.int).all flatV = true := by
  rw [List.all_map, List.all_eq_true]
  intro x _
  rfl
theorem eqvAll_ints : ∀ a b : List Int, PyData.eqvAll (a.map .int) (b.map .int) = decide (a = b)
  | [], [] => rfl
  | [], y :: b => by
    rw [decide_eq_false (by simp)]
    rfl
  | x :: a, [] => by
    rw [decide_eq_false (by simp)]
    rfl
  | x :: a, y :: b => by
    rw [List.map_cons, List.map_cons, PyData.eqvAll, eqvAll_ints a b]
    show ((x == y) && decide (a = b)) = _
    by_cases h : x = y
    · subst h
      by_cases h2 : a = b
      · subst h2
        simp
      · rw [decide_eq_false h2, decide_eq_false (fun z => h2 (List.cons.inj z).2)]
        simp
    · have : (x == y) = false := by simpa using h
      rw [this, decide_eq_false (fun z => h (List.cons.inj z).1)]
      rfl
theorem eqv_ints (a b : List Int) : PyData.eqv (dInts a) (dInts b) = decide (a = b) := by
  unfold dInts
  rw [PyData.eqv]
  exact eqvAll_ints a b
theorem cut_at (xs : List V) (k : Nat) : cutV xs (some (k : Int)) (some ((k : Int) + 1)) = (xs.drop k).take 1 := by
  unfold cutV
  rw [HT.sIx_nat, show (k : Int) + 1 = ((k + 1 : Nat) : Int) by omega, HT.sIx_nat]
  by_cases h : k < xs.length
  · rw [Nat.min_eq_left (by omega), Nat.min_eq_left (by omega), Nat.add_sub_cancel_left]
  · have h1 : min k xs.length = xs.length := by omega
    have h2 : min (k + 1) xs.length = xs.length := by omega
    rw [h1, h2, Nat.sub_self, List.take_zero, List.drop_of_length_le (show xs.length ≤ k by omega)]
    rfl
theorem drop_take1 (L : List Int) (k : Nat) : (L.drop k).take 1 = L[k]?.toList := by
  by_cases h : k < L.length
  · rw [List.getElem?_eq_getElem h, List.drop_eq_getElem_cons h]
    rfl
  · rw [List.getElem?_eq_none (by omega), List.drop_of_length_le (by omega)]
    rfl
end El
namespace El
open PySem PySem.Spec PyProof.Rows L2
section
variable {X : Cx}
/-- the walk over a list -/
theorem gathers_list {pins : List (Addr × Obj)} {σ : L2.St} {H : Hp} {s : Shared} {a : Addr} {xs : List V} (I : Inv X pins σ H s) (h : SqL X.K H a xs) : xs.length ≤ sizeLine ∧ Gathers X s (.ref a) xs := by
  have ⟨us, r, ⟨o, n, at_a, is_list, _, data⟩, few⟩ := I.list h
  refine ⟨few, fun R go => wpAny_collect_seq a (.inl rfl) at_a is_list data (fun h' grown => ?_) ?_⟩
  · rw [List.toList_toArray]
    exact go us h' s.toks r grown
  · rw [List.size_toArray]
    exact r.length ▸ few
/-- a value that is an object's name, seen as ours -/
def asOurs : Value → V
  | .ref a => .ref a
  | _ => .non
/-- sorted(xs, reverse=b) of a list of pairs of ints -/
def rSortedPK (K : PySem.W.Frag) (b : Bool) : List V → List V → Hp → VK → Prop := fun vs zs H Q => ∃ (a : Addr) (xs : List V) (k : V → Int × Int), vs = [V.ref a] ∧ zs = [.bl b] ∧ SqL K H a xs ∧ (∀ x ∈ xs, ∃ t, x = V.ref t ∧ H t = some (.tup [.int (k x).1, .int (k x).2])) ∧
  ∀ ys p, SrtO.Srtd (ltP k) ys → ys.Perm xs → H p = none → Q (.ref p) (upd H p (.lst (if b = true then ys.reverse else ys)))
theorem cr_sortedPK {b : Bool} (_ : X.calm = true) : CallRK X (.builtin "sorted") [Str.ofString "reverse"] (rSortedPK X.K b) := by
  rintro pins s σ H _ _ us ws Q I one by_kw ⟨a, xs, k, rfl, rfl, here, pairs, q⟩
  obtain ⟨v, w, rfl, rfl, rfl, rfl⟩ : ∃ v w, us = [v] ∧ ws = [w] ∧ v = .ref a ∧ w = .bool b := by
    cases one with | cons e1 t1 => cases t1; cases by_kw with | cons e2 t2 => cases t2; exact ⟨_, _, rfl, rfl, e1, e2⟩
  have ⟨few, walk⟩ := gathers_list I here
  have known : ∀ {x : V} {u : Value}, x ∈ xs → RelV x u → asOurs u = x := fun {x u} m e => by
    have ⟨t, ex, _⟩ := pairs x m
    subst ex
    exact congrArg asOurs e
  refine sorted_gathered I few walk (SrtO.swo_lex fun u => k (asOurs u)) (fun us s' l two r J free => ?_) fun P l hP perm up free => ?_
  · refine SrtO.pairs_sortableO (k := fun u => k (asOurs u)) (Nat.lt_of_lt_of_le Nat.two_pos two) (fun u m => ?_) fun o at_l => ?_
    · obtain ⟨P, hP, rfl, rfl⟩ := partners_of r
      have ⟨⟨x, u⟩, mp, eu⟩ := List.mem_map.mp m
      subst eu
      have mx := List.mem_map_of_mem (f := Prod.fst) mp
      have ⟨t, ex, ht⟩ := pairs x mx
      have apart : t ≠ l := fun e => by rw [e, free] at ht; cases ht
      have ⟨_, vs, rv, o, at_t, is_tup, n, data⟩ := J.hok t _ ((upd_ne apart).trans ht)
      rw [known mx (hP _ mp)]
      cases rv with | cons e1 rv => cases rv with | cons e2 rv => cases rv; exact e1.elim fun t1 e1 => e2.elim fun t2 e2 => ⟨t, o, t1, t2, n, by have := hP _ mp; rw [show (x, u).1 = V.ref t from ex] at this; exact this, at_t, is_tup, by rw [data, e1, e2]⟩
    · have ⟨_, vs, e, _, there⟩ := J.hok l _ upd_same
      rw [there] at at_l
      cases at_l
      have differ : Value.type "list" ≠ Value.type "tuple" := by decide
      exact differ
  · have sorts : SrtO.Srtd (ltP k) (P.map Prod.fst) := by
      rw [SrtO.Srtd, List.pairwise_map] at up ⊢
      refine up.imp_of_mem fun {p p'} m m' h => ?_
      have on := fun {p : V × Value} (m : p ∈ P) => known (perm.mem_iff.mp (List.mem_map_of_mem (f := Prod.fst) m)) (hP p m)
      rw [on m, on m'] at h
      exact h
    exact q _ l sorts perm free
/-- sorted by age and patience, turned round: from the eldest on -/
theorem sorted_down {k : V → Int × Int} {ys xs : List V} {gs : List (Int × Int)} (f : Fit gs) (hx : xs.map k = gs) (hs : SrtO.Srtd (ltP k) ys) (hb : ys.Perm xs) : ys.reverse.map k = byAge gs := by
  refine byAge_of f ?_ ?_
  · rw [← hx]
    exact ((List.reverse_perm ys).trans hb).map k
  · rw [List.map_reverse, List.pairwise_reverse, List.pairwise_map]
    refine hs.imp fun {a b} h => ?_
    have h' : SrtO.lexB (k b) (k a) = false := h
    rw [SrtO.lexB_no] at h'
    omega
end
end El
namespace El
open PySem PySem.Spec PyProof.Rows L2
section
variable {X : Cx}
/-- len of a set of ints -/
theorem call_lenSI : CallR X (.builtin "len") (fun xs H Q => ∃ (a : Addr) (S : Int → Bool) (n : Nat), xs = [V.ref a] ∧ H a = some (SetO X.w a S n) ∧ n ≤ 100000 ∧ Q (.int n) H) := by
  intro pins s σ H xs us Q I r h
  obtain ⟨a, S, n, rfl, ha, hn, q⟩ := h
  rw [Vals.ref1 r]
  obtain ⟨o, es, ep, t, ho, hex, hd, _, _, _, hf, he⟩ := (setO_get I ha).setOf (P := X.prog)
  refine call_len_set ho hex hd hf (by rw [he]; exact Int.lt_of_le_of_lt (show (n : Int) ≤ 100000 by omega) (by decide)) ⟨.int n, H, I.tok _, ⟨_, by rw [he]⟩, q⟩
end
theorem piListK {X : Cx} {tg l : Expr} {tl : TE} (K : PySem.W.Frag) (hl : PE X l tl) (e : X.K = K := by rfl) : PI X tg l (iList K tl) := by
  subst e
  exact pi_list hl
/-- the outer walk of a comprehension with two fors, and the inner one -/
theorem out_it {J : It} {n : Nat} {G : Hp → Prop} {Y : Nat → Hp → V → Hp → Prop} (w : Walk J n G Y) {Qd : Hp → Prop} {H0 : Hp} {bd : (Hp → Prop) → V → Hp → Prop} (Pv : Nat → Hp → Prop) (h0 : Pv 0 H0) (hG : ∀ i H, i ≤ n → Pv i H → G H)
    (hs : ∀ i x H H', i < n → Pv i H → Y i H x H' → bd (Pv (i + 1)) x H') (hd : ∀ H, Pv n H → Qd H) :
    ∃ W : Nat → Nat → Hp → Prop, (∃ m, W 0 m H0) ∧ ∀ i m H, W i m H → (J.stop i H ∧ Qd H) ∨ (J.go i H ∧ ∃ Nx : Hp → Prop, (∀ H', Nx H' → ∃ m', m' < m ∧ W (i + 1) m' H') ∧ ∀ x H', J.yld i H x H' → bd Nx x H') := by
  refine ⟨fun i m H => m = n - i ∧ i ≤ n ∧ Pv i H, ⟨n, by simp, Nat.zero_le _, h0⟩, ?_⟩
  rintro i m H ⟨rfl, hi, p⟩
  have q := hG i H hi p
  by_cases hlt : i < n
  · exact .inr ⟨w.goes i H hlt q, Pv (i + 1), fun H' p' => ⟨n - (i + 1), by omega, rfl, hlt, p'⟩, fun x H' y => hs i x H H' hlt p (w.yields i H x H' hlt q y)⟩
  · have e : i = n := by omega
    subst e
    exact .inl ⟨w.stops H q, hd H p⟩
theorem cut_from (xs : List V) (j : Nat) : cutV xs (some (j : Int)) none = xs.drop j := by
  unfold cutV
  rw [HT.sIx_none, HT.sIx_nat]
  show (List.drop (min j xs.length) xs).take (xs.length - min j xs.length) = _
  by_cases h : j ≤ xs.length
  · rw [Nat.min_eq_left h, List.take_of_length_le (by rw [List.length_drop]; omega)]
  · rw [Nat.min_eq_right (by omega), List.drop_of_length_le (Nat.le_refl _), List.drop_of_length_le (show xs.length ≤ j by omega), List.take_nil]
/-- a list of lists of ints, read alone -/
structure RdAt (H : Hp) (o : Addr) (ts : List Addr) (rs : List (List Int)) : Prop where
  top : H o = some (.lst (ts.map V.ref))
  len : ts.length = rs.length
  at' : ∀ (i : Nat) (t : Addr) (r : List Int), ts[i]? = some t → rs[i]? = some r → H t = some (.lst (r.map V.int))
theorem RdAt.same {H H' : Hp} {a : Addr} {ts : List Addr} {rs : List (List Int)} (h : RdAt H a ts rs) (k : Same H H') : RdAt H' a ts rs :=
  ⟨k _ _ h.top, h.len, fun i t g e f => k _ _ (h.at' i t g e f)⟩
theorem RdAt.seq {K : PySem.W.Frag} {H : Hp} {a : Addr} {ts : List Addr} {rs : List (List Int)} (h : RdAt H a ts rs) : SqL K H a (ts.map V.ref) := SqL.of h.top
theorem RmsAt.rd {H : Hp} {B : Addr → Prop} {a : Addr} {ts : List Addr} {rs : List (List Int)} (h : RmsAt H B a ts rs) : RdAt H a ts rs := ⟨h.top, h.len, h.at'⟩
theorem RdAt.get {H : Hp} {a : Addr} {ts : List Addr} {rs : List (List Int)} (h : RdAt H a ts rs) {i : Nat} {x : V} (e : (ts.map V.ref)[i]? = some x) : ∃ t r, x = .ref t ∧ ts[i]? = some t ∧ rs[i]? = some r ∧ H t = some (.lst (r.map V.int)) := by
  obtain ⟨t, e1, rfl⟩ := refs_at e
  have hi := at_lt e1
  rw [h.len] at hi
  obtain ⟨g, e2⟩ := at_some hi
  exact ⟨t, g, rfl, e1, e2, h.at' i t g e1 e2⟩
theorem pks_get {gs : List (Int × Int)} (nd : (gs.map (·.1)).Nodup) {a : Int} (m : a ∈ gs.map (·.1)) : valV (pks gs) (Sum.inl a) = some (.int (pof gs a)) := by
  obtain ⟨g, hg, rfl⟩ := List.mem_map.mp m
  rw [pks_some nd hg, pof_is nd hg]
theorem dget_pof {H : Hp} {d : Addr} {gs : List (Int × Int)} (h : H d = some (.dK (pks gs))) (nd : (gs.map (·.1)).Nodup) {a : Int} (m : a ∈ gs.map (·.1)) : DGet H d (.int a) (some (.int (pof gs a))) := by
  have z := DGet.k (k := Sum.inl a) h
  rw [pks_get nd m] at z
  exact z
theorem take_snoc_flat {rs : List (List Int)} {i : Nat} {r : List Int} (e : rs[i]? = some r) : (rs.take (i + 1)).flatten = (rs.take i).flatten ++ r := by
  rw [take_snoc e, List.flatten_append, List.flatten_cons, List.flatten_nil, List.append_nil]
theorem flat_split {rs : List (List Int)} {i j : Nat} {r : List Int} {a : Int} (nd : rs.flatten.Nodup) (e : rs[i]? = some r) (e2 : r[j]? = some a) : a ∉ (rs.take i).flatten ++ r.take j := by
  have h1 : rs.flatten = (rs.take i).flatten ++ (r ++ (rs.drop (i + 1)).flatten) := by
    have hi := at_lt e
    have h2 : rs = rs.take i ++ r :: rs.drop (i + 1) := by
      have := List.getElem_cons_drop (as := rs) (i := i) hi
      rw [List.getElem?_eq_getElem hi] at e
      rw [Option.some.inj e] at this
      rw [this, List.take_append_drop]
    rw [congrArg List.flatten h2, List.flatten_append, List.flatten_cons]
  have h3 : r = r.take j ++ a :: r.drop (j + 1) := by
    have hj := at_lt e2
    have := List.getElem_cons_drop (as := r) (i := j) hj
    rw [List.getElem?_eq_getElem hj] at e2
    rw [Option.some.inj e2] at this
    rw [this, List.take_append_drop]
  rw [h1] at nd
  generalize (rs.take i).flatten = x at nd ⊢
  generalize (rs.drop (i + 1)).flatten = y at nd
  rw [h3] at nd
  obtain ⟨_, n2, n3⟩ := List.nodup_append.mp nd
  intro m
  rcases List.mem_append.mp m with m | m
  · exact n3 a m a (List.mem_append_left _ (List.mem_append_right _ List.mem_cons_self)) rfl
  · obtain ⟨n4, _, _⟩ := List.nodup_append.mp n2
    obtain ⟨_, _, n7⟩ := List.nodup_append.mp n4
    exact n7 a m a List.mem_cons_self rfl
theorem flat_mem {rs : List (List Int)} {i j : Nat} {r : List Int} {a : Int} (e : rs[i]? = some r) (e2 : r[j]? = some a) : a ∈ rs.flatten :=
  List.mem_flatten.mpr ⟨r, List.mem_of_getElem? e, List.mem_of_getElem? e2⟩
end El
namespace El
/-! ### in peace, by counting -/
theorem upIn_iff {pf : Int → Int} : ∀ {l : List Int} {k : Nat}, upIn pf l k = none ↔ ∀ (i : Nat) (a : Int), l[i]? = some a → ((i + k : Nat) : Int) ≤ pf a
  | [], _ => ⟨fun _ i a e => by simp at e, fun _ => rfl⟩
  | x :: l, k => by
    constructor
    · intro h
      unfold upIn at h
      by_cases q : pf x < (k : Int)
      · rw [if_pos q] at h
        cases h
      · rw [if_neg q] at h
        intro i a e
        cases i with
        | zero =>
          obtain rfl : x = a := Option.some.inj e
          omega
        | succ i =>
          have := (upIn_iff.mp h) i a (by simpa using e)
          omega
    · exact upIn_none
theorem upsetOf_iff {gs : List (Int × Int)} : ∀ {rs : List (List Int)} {k : Nat}, upsetOf gs rs k = none ↔ ∀ r ∈ rs, eldUp gs r = none
  | [], _ => ⟨fun _ r m => absurd m List.not_mem_nil, fun _ => rfl⟩
  | r :: rs, k => by
    constructor
    · intro h
      unfold upsetOf at h
      cases e : eldUp gs r with
      | some a => rw [e] at h; cases h
      | none =>
        rw [e] at h
        intro s m
        rcases List.mem_cons.mp m with rfl | m
        · exact e
        · exact (upsetOf_iff.mp h) s m
    · exact upsetOf_none
theorem above_ix : ∀ {l : List Int} {i : Nat} {a : Int}, l.Pairwise (· > ·) → l[i]? = some a → (l.filter fun b => decide (a < b)).length = i
  | [], i, a, _, e => by simp at e
  | x :: l, 0, a, h, e => by
    obtain rfl : x = a := Option.some.inj e
    obtain ⟨h1, _⟩ := List.pairwise_cons.mp h
    rw [List.filter_cons_of_neg (by simp), List.filter_eq_nil_iff.mpr fun b hb => by
      have := h1 b hb
      simp only [decide_eq_true_eq]
      omega]
    rfl
  | x :: l, i + 1, a, h, e => by
    obtain ⟨h1, h2⟩ := List.pairwise_cons.mp h
    have e' : l[i]? = some a := by simpa using e
    have := h1 a (List.mem_of_getElem? e')
    rw [List.filter_cons_of_pos (by simp only [decide_eq_true_eq]; omega), List.length_cons, above_ix h2 e']
def above (r : List Int) (a : Int) : List Int := r.filter fun b => decide (a < b)
theorem down_strict {r : List Int} (nd : r.Nodup) : (down r).Pairwise (· > ·) := by
  have h1 := down_sorted r
  have h2 : (down r).Nodup := ((down_perm r).nodup_iff).mpr nd
  have h3 := h1.and h2
  exact h3.imp fun {a b} h => by
    have := h.1
    have := h.2
    omega
theorem eldUp_iff {gs : List (Int × Int)} {r : List Int} (nd : r.Nodup) : eldUp gs r = none ↔ ∀ a ∈ r, ((above r a).length : Int) ≤ pof gs a := by
  have hl : ∀ a, (above r a).length = ((down r).filter fun b => decide (a < b)).length := fun a => (((down_perm r).filter _).length_eq).symm
  unfold eldUp
  rw [upIn_iff]
  constructor
  · intro h a m
    obtain ⟨i, e⟩ := List.mem_iff_getElem?.mp ((down_perm r).mem_iff.mpr m)
    have := h i a e
    rw [hl, above_ix (down_strict nd) e]
    omega
  · intro h i a e
    have := h a ((down_perm r).mem_iff.mp (List.mem_of_getElem? e))
    rw [hl, above_ix (down_strict nd) e] at this
    omega
theorem flat_nd {rs : List (List Int)} (nd : rs.flatten.Nodup) {r : List Int} (m : r ∈ rs) : r.Nodup := (List.pairwise_flatten.mp nd).1 r m
def full (rs : List (List Int)) : List (List Int) := rs.filter fun r => !r.isEmpty
def lensD (rs : List (List Int)) : List Int := (full rs).map fun r => (r.length : Int)
/-- in peace and as good as can be -/
def bestB (gs : List (Int × Int)) (rs : List (List Int)) : Bool := decide (upsetOf gs rs 0 = none) && decide (down (lensD rs) = (settle gs).map fun r => (r.length : Int))
end El
namespace El
open PySem PySem.Spec PyProof.Rows L2
section
variable {X : Cx}
theorem ptTruthK {a : Expr} {ta : TE} (K : PySem.W.Frag) (ha : PE X a ta) (he : ∀ whole, isTrue a X.env whole = (do let v ← whole; standAt a.pos; holding [v] (truthy v))) (e : X.K = K := by rfl) :
    PT X a (tTru K ta) := by
  subst e
  exact pt_truth ha he
/-! ### xs[::s], s 1 or -1 -/
def tStepL (K : PySem.W.Frag) (te ts : TE) : TE := fun σ H Q => te σ H fun x H1 => ts σ H1 fun y H2 => ∃ c, y = .int c ∧ ∃ a xs, x = .ref a ∧ (c = 1 ∨ c = -1) ∧ SqL K H2 a xs ∧ ∀ p, H2 p = none → Q (.ref p) (upd H2 p (.lst (if c = 1 then xs else xs.reverse)))
/-- what such a cut picks -/
theorem pick_way (us : List Value) {c : Int} (h : c = 1 ∨ c = -1) : slicePick us.toArray none none (some c) = (if c = 1 then us else us.reverse).toArray := by
  rcases h with rfl | rfl
  · show slicePick us.toArray none none none = _
    rw [slicePick_cut, HT.sIx_none, HT.sIx_none, List.drop_zero, Nat.sub_zero, List.take_length]
    rfl
  · exact PySem.W.krv_pick us.toArray
/-- a cut lies there that names its step alone -/
def StepAt (s : Shared) (i : Value) (c : Int) : Prop := ∃ p u, i = .ref p ∧ s.heap.IsSliceOf p .none .none (.int c u)
theorem step_made {st : Expr} {ts : TE} {p : Pos} {pins : List (Addr × Obj)} {σ : L2.St} {H : Hp} {s : Shared} {R : Value → Shared → Prop} {D : Int → Hp → Prop} (hs : PE X st ts) (I : Inv X pins σ H s)
    (h : ts σ H fun y H' => ∃ c, y = .int c ∧ D c H') (go : ∀ c H' i s', Inv X pins σ H' s' → StepAt s' i c → D c H' → R i s') : wpAny (model X.prog X.w) X.A (eval (.Slice none none (some st) p) X.env) R X.xe s := by
  refine wpAny_Slice (wpAny_pure (wpAny_pure (thn (hs.run pins s σ H _ I h) ?_)))
  rintro _ s' ⟨_, H', J, e, c, rfl, d⟩
  obtain ⟨u, rfl⟩ : ∃ u, _ = Value.int c u := e
  exact go c H' _ _ (J.kept (t' := s'.toks) fun _ _ => Heap.get?_push_of_some _) ⟨_, u, rfl, .new ..⟩ d
theorem list_cut {pins : List (Addr × Obj)} {σ : L2.St} {H : Hp} {s : Shared} {Q : VK} {a : Addr} {xs : List V} {i : Value} {c : Int} (I : Inv X pins σ H s) (here : SqL X.K H a xs) (cut : StepAt s i c) (h : c = 1 ∨ c = -1)
    (q : ∀ p, H p = none → Q (.ref p) (upd H p (.lst (if c = 1 then xs else xs.reverse)))) : wpAny (model X.prog X.w) X.A (getItem (.ref a) i) (EP X pins σ Q) X.xe s := by
  have ⟨us, r, at_a, few⟩ := I.list here
  have ⟨_, _, e, at_i⟩ := cut
  subst e
  have fits : us.toArray.size ≤ sizeLine := Nat.le_trans (Nat.le_of_eq (us.size_toArray.trans r.length.symm)) few
  have turned : Vals (if c = 1 then xs else xs.reverse) (if c = 1 then us else us.reverse) := by
    split
    · exact r
    · exact r.reverse
  have same : (if c = 1 then xs else xs.reverse).length = xs.length := by
    split
    · rfl
    · exact xs.length_reverse
  refine wpAny_getItem_list_slice at_a.isList at_i .none .none (.int c _) (fun z => by rcases h with rfl | rfl <;> cases z) ?_ fits
  rw [pick_way us h]
  have J := I.laid (a := s.heap.objs.size) (o := .lst (if c = 1 then xs else xs.reverse)) (t' := s.toks) (fun _ _ => Heap.get?_push_of_some _) (Nat.le_refl _) ⟨same ▸ few, _, 0, turned, Heap.get?_push_size _ rfl⟩
  exact ⟨.ref _, _, J, rfl, q _ (I.hok.fresh (Nat.le_refl _))⟩
theorem pe_stepL {e st : Expr} {te ts : TE} {p3 pos : Pos} (he : PE X e te) (hs : PE X st ts) : PE X (.Subscript e (.Slice none none (some st) p3) pos) (tStepL X.K te ts) where
  run pins s σ H Q I h := by
    refine Subscript_ (thn (he.run pins s σ H _ I h) ?_)
    rintro v s1 ⟨x, H1, J1, r, more⟩
    refine step_made hs J1 more ?_
    rintro c H2 i s2 J2 cut ⟨a, xs, rfl, way, here, q⟩
    cases r
    have ⟨_, _, at_a, _⟩ := J2.list here
    exact tail_any (ops := [.ref a, i]) at_a.isList.typeIs PySem.slot_list_getitem.lookup (list_cut J2 here cut way q) (by have ⟨_, _, e, _⟩ := cut; subst e; with_unfolding_all rfl)
end
theorem mergeK_pks {gs : List (Int × Int)} (nd : (gs.map (·.1)).Nodup) : mergeK [] (pks gs) = pks gs := by
  suffices h : ∀ (n : Nat), n ≤ gs.length → mergeK [] (pks (gs.take n)) = pks (gs.take n) by
    have := h gs.length (Nat.le_refl _)
    rw [take_full] at this
    exact this
  intro n
  induction n with
  | zero =>
    intro _
    rw [List.take_zero]
    rfl
  | succ n ih =>
    intro hn
    obtain ⟨g, eg⟩ := at_some hn
    have ht : (gs.take n).map (·.1) = (gs.map (·.1)).take n := List.map_take
    have no : g.1 ∉ (gs.take n).map (·.1) := fun m => by
      rw [ht] at m
      have e : (gs.map (·.1))[n]? = some g.1 := by rw [List.getElem?_map, eg]; rfl
      obtain ⟨i, hi⟩ := List.mem_iff_getElem?.mp m
      rw [List.getElem?_take] at hi
      split at hi
      · have := nd_ix nd hi e
        omega
      · cases hi
    rw [take_snoc eg]
    unfold mergeK at ih ⊢
    rw [pks_snoc, List.foldl_append, ih (by omega)]
    show putK (pks (gs.take n)) (Sum.inl g.1) (V.int g.2) = _
    rw [putK_snoc no, pks_snoc]
theorem GsAt.paired {K : PySem.W.Frag} {H : Hp} {B : Addr → Prop} {a : Addr} {ts : List Addr} {gs : List (Int × Int)} (h : GsAt H B a ts gs) : Paired (fun p kv => SqT K H p [kV kv.1, kv.2]) ts (pks gs) := by
  have hl := h.len
  have ha := h.at'
  clear h
  induction ts generalizing gs with
  | nil =>
    cases gs with
    | nil => exact .nil
    | cons g gs => simp at hl
  | cons t ts ih =>
    cases gs with
    | nil => simp at hl
    | cons g gs =>
      refine .cons (SqT.of (ha 0 t g rfl rfl)) (ih (gs := gs) (by simpa using hl) fun i t' g' e1 e2 => ha (i + 1) t' g' (by simpa using e1) (by simpa using e2))
theorem RdAt.of {H : Hp} {a : Addr} {ts : List Addr} {rs : List (List Int)} (h : RdAt H a ts rs) {i : Nat} {r : List Int} (e : rs[i]? = some r) : ∃ t, ts[i]? = some t ∧ H t = some (.lst (r.map V.int)) := by
  have hi := at_lt e
  rw [← h.len] at hi
  obtain ⟨t, e2⟩ := at_some hi
  exact ⟨t, e2, h.at' i t r e2 e⟩
theorem flat_in {rs : List (List Int)} {r : List Int} (m : r ∈ rs) : r.length ≤ rs.flatten.length := room_le_flat rs r m
theorem full_snoc {rs : List (List Int)} {i : Nat} {r : List Int} (e : rs[i]? = some r) : lensD (rs.take (i + 1)) = if r = [] then lensD (rs.take i) else lensD (rs.take i) ++ [(r.length : Int)] := by
  unfold lensD full
  rw [take_snoc e, List.filter_append]
  cases r with
  | nil => rw [List.filter_cons_of_neg (by simp), List.filter_nil, List.append_nil, if_pos rfl]
  | cons x r => rw [List.filter_cons_of_pos (by simp), List.filter_nil, List.map_append, if_neg (by simp)]; rfl
theorem lensD_len (rs : List (List Int)) : (lensD rs).length ≤ rs.length := by
  unfold lensD full
  rw [List.length_map]
  exact List.length_filter_le _ _
end El
namespace El
open PySem PySem.Spec PyProof.Rows L2
/-- [f(x) for x in L], ints to ints -/
theorem lc_ints {K : PySem.W.Frag} {a D : Addr} {L : List Int} {i : Nat} {te : TE} {vs : List Nat} {σ : L2.St} {H1 : Hp} {Qd : Hp → Prop} (f : Int → Int) (hL : H1 a = some (.lst (L.map V.int))) (hD : H1 D = none) (hl : L.length ≤ 1000)
    (he : ∀ (k : Nat) (z : Int) (H' : Hp), L[k]? = some z → Same H1 H' → ∀ Q : VK, Q (.int (f z)) H' → te ((wipe σ vs).set i (some (.int z))) H' Q) (hw : ∀ z : Int, wipe ((wipe σ vs).set i (some (.int z))) vs = wipe σ vs)
    (hd : ∀ H2, Same H1 H2 → H2 D = some (.lst ((L.map f).map V.int)) → Qd H2) :
    ∃ W : Nat → Nat → Hp → Prop, (∃ m, W 0 m (upd H1 D (.lst []))) ∧ ∀ k m H, W k m H →
      ((Itl K a).stop k H ∧ Qd H) ∨ ((Itl K a).go k H ∧ ∃ Nx : Hp → Prop, (∀ H', Nx H' → ∃ m', m' < m ∧ W (k + 1) m' H') ∧ ∀ x H', (Itl K a).yld k H x H' → gName i x (wipe σ vs) H' fun σ2 H2 => wipe σ2 vs = wipe σ vs ∧ tYes σ2 H2 fun b H3 =>
        if b = true then te σ2 H3 fun y H4 => ∃ acc, H4 D = some (.lst acc) ∧ acc.length < sizeLine ∧ Nx (upd H4 D (.lst (acc ++ [y]))) else Nx H3) := by
  refine lc_it (walk_list (xs := L.map V.int)) (fun k H2 => Same H1 H2 ∧ H2 D = some (.lst (((L.take k).map f).map V.int))) ⟨same_new hD, upd_same⟩ (fun k H2 _ hW => ?_) (fun k x H2 H3 hk hW hY => ?_) (fun H2 hW => ?_)
  · exact SqL.of (hW.1 _ _ hL)
  · obtain ⟨sm, e⟩ := hW
    obtain ⟨rfl, hx⟩ := hY
    obtain ⟨z, ez, rfl⟩ := ints_at hx
    refine ⟨hw z, he k z H3 ez sm _ ⟨_, e, ils (by rw [List.length_map, List.length_map, List.length_take]; omega), Same.mut sm hD, ?_⟩⟩
    rw [upd_same, take_snoc ez, List.map_append, List.map_append]
    rfl
  · obtain ⟨sm, e⟩ := hW
    rw [List.length_map, take_full] at e
    exact hd H2 sm e
/-- [f(room) for room in rs], lists of ints to ints -/
theorem lc_rows {K : PySem.W.Frag} {a D : Addr} {us : List Addr} {rs : List (List Int)} {i : Nat} {te : TE} {vs : List Nat} {σ : L2.St} {H1 : Hp} {Qd : Hp → Prop} (f : List Int → Int) (hR : RdAt H1 a us rs) (hD : H1 D = none) (hl : rs.length ≤ 1000)
    (he : ∀ (t : Addr) (r : List Int) (H' : Hp), r ∈ rs → H' t = some (.lst (r.map V.int)) → ∀ Q : VK, Q (.int (f r)) H' → te ((wipe σ vs).set i (some (.ref t))) H' Q) (hw : ∀ t : Addr, wipe ((wipe σ vs).set i (some (.ref t))) vs = wipe σ vs)
    (hd : ∀ H2, Same H1 H2 → H2 D = some (.lst ((rs.map f).map V.int)) → Qd H2) :
    ∃ W : Nat → Nat → Hp → Prop, (∃ m, W 0 m (upd H1 D (.lst []))) ∧ ∀ k m H, W k m H →
      ((Itl K a).stop k H ∧ Qd H) ∨ ((Itl K a).go k H ∧ ∃ Nx : Hp → Prop, (∀ H', Nx H' → ∃ m', m' < m ∧ W (k + 1) m' H') ∧ ∀ x H', (Itl K a).yld k H x H' → gName i x (wipe σ vs) H' fun σ2 H2 => wipe σ2 vs = wipe σ vs ∧ tYes σ2 H2 fun b H3 =>
        if b = true then te σ2 H3 fun y H4 => ∃ acc, H4 D = some (.lst acc) ∧ acc.length < sizeLine ∧ Nx (upd H4 D (.lst (acc ++ [y]))) else Nx H3) := by
  refine lc_it (walk_list (xs := us.map V.ref)) (fun k H2 => Same H1 H2 ∧ H2 D = some (.lst (((rs.take k).map f).map V.int))) ⟨same_new hD, upd_same⟩ (fun k H2 _ hW => ?_) (fun k x H2 H3 hk hW hY => ?_) (fun H2 hW => ?_)
  · exact (hR.same hW.1).seq
  · obtain ⟨sm, e⟩ := hW
    obtain ⟨rfl, hx⟩ := hY
    obtain ⟨t, r, rfl, _, er, et⟩ := (hR.same sm).get hx
    refine ⟨hw t, he t r H3 (List.mem_of_getElem? er) et _ ⟨_, e, ils (by rw [List.length_map, List.length_map, List.length_take]; omega), Same.mut sm hD, ?_⟩⟩
    rw [upd_same, take_snoc er, List.map_append, List.map_append]
    rfl
  · obtain ⟨sm, e⟩ := hW
    rw [List.length_map, hR.len, take_full] at e
    exact hd H2 sm e
end El
namespace El
open PySem PySem.Spec PyProof.Rows L2
/-- [f(a, b) for a, b in gs], pairs of ints to ints -/
theorem lc_prs {K : PySem.W.Frag} {B : Addr → Prop} {a D : Addr} {ts : List Addr} {gs : List (Int × Int)} {i j : Nat} {te : TE} {vs : List Nat} {σ : L2.St} {H1 : Hp} {Qd : Hp → Prop} (f : Int × Int → Int) (hG : GsAt H1 B a ts gs) (hD : H1 D = none) (hl : gs.length ≤ 1000)
    (he : ∀ (z : Int × Int) (H' : Hp), z ∈ gs → Same H1 H' → ∀ Q : VK, Q (.int (f z)) H' → te (((wipe σ vs).set i (some (.int z.1))).set j (some (.int z.2))) H' Q) (hw : ∀ z : Int × Int, wipe (((wipe σ vs).set i (some (.int z.1))).set j (some (.int z.2))) vs = wipe σ vs)
    (hd : ∀ H2, Same H1 H2 → H2 D = some (.lst ((gs.map f).map V.int)) → Qd H2) :
    ∃ W : Nat → Nat → Hp → Prop, (∃ m, W 0 m (upd H1 D (.lst []))) ∧ ∀ k m H, W k m H →
      ((Itl K a).stop k H ∧ Qd H) ∨ ((Itl K a).go k H ∧ ∃ Nx : Hp → Prop, (∀ H', Nx H' → ∃ m', m' < m ∧ W (k + 1) m' H') ∧ ∀ x H', (Itl K a).yld k H x H' → gTup K 2 (gCons (gName i) (gCons (gName j) gNil)) x (wipe σ vs) H' fun σ2 H2 => wipe σ2 vs = wipe σ vs ∧ tYes σ2 H2 fun b H3 =>
        if b = true then te σ2 H3 fun y H4 => ∃ acc, H4 D = some (.lst acc) ∧ acc.length < sizeLine ∧ Nx (upd H4 D (.lst (acc ++ [y]))) else Nx H3) := by
  refine lc_it (walk_list (xs := ts.map V.ref)) (fun k H2 => Same H1 H2 ∧ H2 D = some (.lst (((gs.take k).map f).map V.int))) ⟨same_new hD, upd_same⟩ (fun k H2 _ hW => ?_) (fun k x H2 H3 hk hW hY => ?_) (fun H2 hW => ?_)
  · exact (hG.same hW.1).seq
  · obtain ⟨sm, e⟩ := hW
    obtain ⟨rfl, hx⟩ := hY
    obtain ⟨t, z, rfl, ez, et⟩ := (hG.same sm).get hx
    refine ⟨t, _, rfl, SqT.of et, rfl, .int z.1, _, rfl, .int z.2, _, rfl, rfl, ?_⟩
    refine ⟨hw z, he z H3 (List.mem_of_getElem? ez) sm _ ⟨_, e, ils (by rw [List.length_map, List.length_map, List.length_take]; omega), Same.mut sm hD, ?_⟩⟩
    rw [upd_same, take_snoc ez, List.map_append, List.map_append]
    rfl
  · obtain ⟨sm, e⟩ := hW
    rw [List.length_map, hG.len, take_full] at e
    exact hd H2 sm e
theorem GsAt.top' {H : Hp} {B : Addr → Prop} {a : Addr} {ts : List Addr} {gs : List (Int × Int)} (h : GsAt H B a ts gs) {b : Addr} (e : H b = some (.lst (ts.map V.ref))) : GsAt H (fun _ => True) b ts gs := ⟨e, trivial, h.len, h.at', fun _ _ => trivial⟩
/-- a pair of a list of pairs, by its place -/
theorem GsAt.at_ {H : Hp} {B : Addr → Prop} {a : Addr} {ts : List Addr} {gs : List (Int × Int)} (h : GsAt H B a ts gs) {i : Nat} {g : Int × Int} (e : gs[i]? = some g) : ∃ t, (ts.map V.ref)[i]? = some (.ref t) ∧ H t = some (.tup [.int g.1, .int g.2]) := by
  have hl := at_lt e
  rw [← h.len] at hl
  obtain ⟨t, e2⟩ := at_some hl
  exact ⟨t, by rw [List.getElem?_map, e2]; rfl, h.at' i t g e2 e⟩
theorem pick2 {P : Int → Prop} {a b r : Int} (h0 : 0 ≤ r) (h1 : r < 2) (pa : P a) (pb : P b) : ∃ v : Int, atI [V.int a, .int b] r = some (.int v) ∧ P v := by
  obtain ⟨v, hv, mv⟩ := at_pick (xs := [V.int a, .int b]) h0 h1
  rcases List.mem_cons.mp mv with rfl | mv
  · exact ⟨_, hv, pa⟩
  · obtain rfl := List.mem_singleton.mp mv
    exact ⟨_, hv, pb⟩
theorem pick3 {P : Int → Prop} {a b c r : Int} (h0 : 0 ≤ r) (h1 : r < 3) (pa : P a) (pb : P b) (pc : P c) : ∃ v : Int, atI [V.int a, .int b, .int c] r = some (.int v) ∧ P v := by
  obtain ⟨v, hv, mv⟩ := at_pick (xs := [V.int a, .int b, .int c]) h0 h1
  rcases List.mem_cons.mp mv with rfl | mv
  · exact ⟨_, hv, pa⟩
  rcases List.mem_cons.mp mv with rfl | mv
  · exact ⟨_, hv, pb⟩
  · obtain rfl := List.mem_singleton.mp mv
    exact ⟨_, hv, pc⟩
theorem pick4 {P : Int → Prop} {a b c d r : Int} (h0 : 0 ≤ r) (h1 : r < 4) (pa : P a) (pb : P b) (pc : P c) (pd : P d) : ∃ v : Int, atI [V.int a, .int b, .int c, .int d] r = some (.int v) ∧ P v := by
  obtain ⟨v, hv, mv⟩ := at_pick (xs := [V.int a, .int b, .int c, .int d]) h0 h1
  rcases List.mem_cons.mp mv with rfl | mv
  · exact ⟨_, hv, pa⟩
  rcases List.mem_cons.mp mv with rfl | mv
  · exact ⟨_, hv, pb⟩
  rcases List.mem_cons.mp mv with rfl | mv
  · exact ⟨_, hv, pc⟩
  · obtain rfl := List.mem_singleton.mp mv
    exact ⟨_, hv, pd⟩
theorem pickL {P : Int → Prop} {L : List Int} {r : Int} (h0 : 0 ≤ r) (h1 : r < L.length) (p : ∀ x ∈ L, P x) : ∃ v : Int, atI (L.map V.int) r = some (.int v) ∧ P v := by
  obtain ⟨v, hv, mv⟩ := at_pick (xs := L.map V.int) h0 (by rw [List.length_map]; exact h1)
  obtain ⟨x, mx, rfl⟩ := List.mem_map.mp mv
  exact ⟨x, hv, p x mx⟩
/-- pairs that stand at these, whatever list tells them -/
structure Prs (H : Hp) (ts : List Addr) (gs : List (Int × Int)) : Prop where
  len : ts.length = gs.length
  at' : ∀ (i : Nat) (t : Addr) (g : Int × Int), ts[i]? = some t → gs[i]? = some g → H t = some (.tup [.int g.1, .int g.2])
theorem GsAt.pr {H : Hp} {B : Addr → Prop} {a : Addr} {ts : List Addr} {gs : List (Int × Int)} (h : GsAt H B a ts gs) : Prs H ts gs := ⟨h.len, h.at'⟩
theorem Prs.gs {H : Hp} {a : Addr} {ts : List Addr} {gs : List (Int × Int)} (h : Prs H ts gs) (e : H a = some (.lst (ts.map V.ref))) : GsAt H (fun _ => True) a ts gs := ⟨e, trivial, h.len, h.at', fun _ _ => trivial⟩
theorem Prs.same {H H' : Hp} {ts : List Addr} {gs : List (Int × Int)} (h : Prs H ts gs) (k : Same H H') : Prs H' ts gs := ⟨h.len, fun i t g e f => k _ _ (h.at' i t g e f)⟩
theorem Prs.nil {H : Hp} : Prs H [] [] := ⟨rfl, fun i t g e _ => by simp at e⟩
theorem Prs.cons {H : Hp} {t : Addr} {g : Int × Int} {ts : List Addr} {gs : List (Int × Int)} (e : H t = some (.tup [.int g.1, .int g.2])) (h : Prs H ts gs) : Prs H (t :: ts) (g :: gs) := by
  refine ⟨by rw [List.length_cons, List.length_cons, h.len], fun i u x e1 e2 => ?_⟩
  cases i with
  | zero =>
    obtain rfl : t = u := Option.some.inj e1
    obtain rfl : g = x := Option.some.inj e2
    exact e
  | succ i => exact h.at' i u x (by simpa using e1) (by simpa using e2)
theorem Prs.cat {H : Hp} {ts us : List Addr} {gs hs : List (Int × Int)} (h : Prs H ts gs) (k : Prs H us hs) : Prs H (ts ++ us) (gs ++ hs) := by
  refine ⟨by rw [List.length_append, List.length_append, h.len, k.len], fun i t r e1 e2 => ?_⟩
  by_cases hi : i < ts.length
  · rw [List.getElem?_append_left hi] at e1
    rw [List.getElem?_append_left (by rw [← h.len]; exact hi)] at e2
    exact h.at' i t r e1 e2
  · rw [List.getElem?_append_right (by omega)] at e1
    rw [List.getElem?_append_right (by rw [← h.len]; omega), ← h.len] at e2
    exact k.at' _ t r e1 e2
theorem Prs.take {H : Hp} {ts : List Addr} {gs : List (Int × Int)} (h : Prs H ts gs) (n : Nat) : Prs H (ts.take n) (gs.take n) := by
  refine ⟨by rw [List.length_take, List.length_take, h.len], fun i t r e1 e2 => ?_⟩
  rw [List.getElem?_take] at e1 e2
  split at e1
  · rename_i hi
    rw [if_pos hi] at e2
    exact h.at' i t r e1 e2
  · cases e1
theorem Prs.drop {H : Hp} {ts : List Addr} {gs : List (Int × Int)} (h : Prs H ts gs) (n : Nat) : Prs H (ts.drop n) (gs.drop n) := by
  refine ⟨by rw [List.length_drop, List.length_drop, h.len], fun i t r e1 e2 => ?_⟩
  rw [List.getElem?_drop] at e1 e2
  exact h.at' _ t r e1 e2
theorem cutFrom (xs : List V) (j : Nat) : cutV xs (some (j : Int)) none = xs.drop j := by
  unfold cutV
  rw [HT.sIx_none, HT.sIx_nat]
  show (List.drop (min j xs.length) xs).take (xs.length - min j xs.length) = _
  by_cases h : j ≤ xs.length
  · rw [Nat.min_eq_left h, List.take_of_length_le (by rw [List.length_drop]; omega)]
  · rw [Nat.min_eq_right (by omega), List.drop_of_length_le (Nat.le_refl _), List.drop_of_length_le (show xs.length ≤ j by omega), List.take_nil]
theorem iteX {c : Bool} {A B : Prop} (hc : c = false) (h : B) : if c = true then A else B := by
  rw [hc]
  exact iteF h
theorem nd_self (x : V) : (!decide (x = x)) = false := by rw [decide_eq_true rfl]; rfl
theorem log2_lt {x : Int} {k : Nat} (h0 : 0 ≤ x) (h1 : x < 2 ^ k) (hk : 0 < k) : x.natAbs.log2 < k := by
  by_cases h4 : x.natAbs = 0
  · rw [h4]; exact Nat.lt_of_le_of_lt (by decide) hk
  · refine (Nat.log2_lt h4).mpr ?_
    have : ((x.natAbs : Nat) : Int) < ((2 ^ k : Nat) : Int) := by
      rw [show ((x.natAbs : Nat) : Int) = x by omega]
      exact_mod_cast h1
    exact_mod_cast this
theorem part_at {gs : List (Int × Int)} {i : Nat} {g : Int × Int} (e : gs[i]? = some g) : gs = gs.take i ++ [g] ++ gs.drop (i + 1) := by
  have hi := at_lt e
  have h2 := List.getElem_cons_drop (as := gs) (i := i) hi
  rw [List.getElem?_eq_getElem hi] at e
  rw [Option.some.inj e] at h2
  rw [List.append_assoc]
  show gs = gs.take i ++ (g :: gs.drop (i + 1))
  rw [h2, List.take_append_drop]
theorem rg0 {i : Nat} {x : V} (h : x = V.int (0 + (i : Int))) : x = V.int (i : Int) := by
  rw [h, Int.zero_add]
end El
namespace El
open PySem PySem.Spec PyProof.Rows L2
theorem RmsAt.addN {H : Hp} {B : Addr → Prop} {o u : Addr} {ts : List Addr} {rs : List (List Int)} {r : List Int} (h : RmsAt H B o ts rs) (e : H u = some (.lst (r.map V.int))) (bu : B u) (hu : u ∉ ts) (uo : u ≠ o) :
    RmsAt (upd H o (.lst (ts.map V.ref ++ [.ref u]))) B o (ts ++ [u]) (rs ++ [r]) := by
  have no : ∀ t ∈ ts, t ≠ o := fun t m z => h.no (z ▸ m)
  refine ⟨by rw [upd_same, List.map_append]; rfl, h.bo, ?_, ?_, ?_, fun i t r' e1 e2 => ?_, fun t m => ?_⟩
  · rw [List.nodup_append]
    refine ⟨h.nd, by simp, fun a m b mb => ?_⟩
    rw [List.mem_singleton.mp mb]
    exact fun z => hu (z ▸ m)
  · intro m
    rcases List.mem_append.mp m with m | m
    · exact h.no m
    · exact uo (List.mem_singleton.mp m).symm
  · rw [List.length_append, List.length_append, h.len]
    rfl
  · by_cases hi : i < ts.length
    · rw [List.getElem?_append_left hi] at e1
      rw [List.getElem?_append_left (by rw [← h.len]; exact hi)] at e2
      rw [upd_ne (no t (List.mem_of_getElem? e1))]
      exact h.at' i t r' e1 e2
    · have hi2 := at_lt e1
      rw [List.length_append, List.length_singleton] at hi2
      have : i = ts.length := by omega
      subst this
      rw [List.getElem?_append_right (Nat.le_refl _), Nat.sub_self] at e1
      rw [h.len, List.getElem?_append_right (Nat.le_refl _), Nat.sub_self] at e2
      obtain rfl := Option.some.inj e1
      obtain rfl := Option.some.inj e2
      rw [upd_ne uo]
      exact e
  · rcases List.mem_append.mp m with m | m
    · exact h.b t m
    · rw [List.mem_singleton.mp m]
      exact bu
theorem GsAt.sortedN {H H' : Hp} {B : Addr → Prop} {a p : Addr} {ts : List Addr} {gs : List (Int × Int)} {zs : List V} (h : GsAt H B a ts gs) (k : Same H H') (pm : zs.Perm (ts.map V.ref)) (hz : zs.map (prOf H) = byAge gs) (e : H' p = some (.lst zs)) : ∃ us, GsAt H' (fun _ => True) p us (byAge gs) ∧ zs = us.map V.ref ∧ ∀ u ∈ us, u ∈ ts := by
  have : ∃ us : List Addr, zs = us.map V.ref ∧ ∀ u ∈ us, u ∈ ts := by
    have hm : ∀ z ∈ zs, ∃ t, z = V.ref t ∧ t ∈ ts := fun z m => by
      obtain ⟨t, mt, rfl⟩ := List.mem_map.mp (pm.mem_iff.mp m)
      exact ⟨t, rfl, mt⟩
    clear pm hz e
    induction zs with
    | nil => exact ⟨[], rfl, fun u m => by simp at m⟩
    | cons z zs ih =>
      obtain ⟨t, rfl, mt⟩ := hm z List.mem_cons_self
      obtain ⟨us, rfl, hu⟩ := ih fun y m => hm y (List.mem_cons_of_mem _ m)
      exact ⟨t :: us, rfl, fun u m => by
        rcases List.mem_cons.mp m with rfl | m
        · exact mt
        · exact hu u m⟩
  obtain ⟨us, rfl, hu⟩ := this
  refine ⟨us, ⟨e, trivial, ?_, fun i t g e1 e2 => ?_, fun _ _ => trivial⟩, rfl, hu⟩
  · have := congrArg List.length hz
    rw [List.length_map, List.length_map] at this
    exact this
  · have m := h.mem (.ref t) (pm.mem_iff.mp (List.mem_map.mpr ⟨t, List.mem_of_getElem? e1, rfl⟩))
    obtain ⟨t', et, e3⟩ := m
    injection et with et
    subst et
    have : prOf H (.ref t) = g := by
      have h2 := congrArg (fun l => l[i]?) hz
      rw [List.getElem?_map, List.getElem?_map, e1, e2] at h2
      exact Option.some.inj h2
    rw [this] at e3
    exact k _ _ e3
theorem iteTa {c : Bool} {A B : Prop} (hc : c = true) (h : A) : if c = true then A else B := by rw [if_pos hc]; exact h
end El
namespace El
open PySem PySem.Spec PyProof.Rows L2
def topS (i : Nat) : Stmt := PySem.Challenge.pw_elderinn_k21_rooms_of_great_crowds.main.body.getD i (.Pass ⟨0, 0, 0, 0⟩)
end El
namespace El
/-! ### crowds: what rooms become when so many of the same patience come -/
/-- one comes who bears p -/
def sit (p : Int) : List Int → List Int
  | [] => [1]
  | s :: L => if s ≤ p then (s + 1) :: L else s :: sit p L
def sitN (p : Int) : Nat → List Int → List Int
  | 0, L => L
  | n + 1, L => sitN p n (sit p L)
def plc (z p : Int) : Int := max 0 (p + 1 - z)
/-- so many fill room after room -/
def pour (p : Int) : Int → List Int → List Int
  | _, [] => []
  | n, s :: L => (s + min n (plc s p)) :: pour p (n - min n (plc s p)) L
def ex (R : List (Int × Int)) : List Int := R.flatMap fun r => List.replicate r.2.toNat r.1
def grownR (z c p k : Int) : List (Int × Int) := if k = 0 then [(z, c)] else if k % plc z p = 0 then [(p + 1, k / plc z p), (z, c - k / plc z p)] else [(p + 1, k / plc z p), (z + k % plc z p, 1), (z, c - k / plc z p - 1)]
theorem plc_nn (z p : Int) : 0 ≤ plc z p := by
  unfold plc
  omega
theorem pour_0 (p : Int) : ∀ X : List Int, pour p 0 X = X
  | [] => rfl
  | s :: L => by
    have := plc_nn s p
    rw [pour, show min 0 (plc s p) = 0 by omega, show (0 : Int) - 0 = 0 from rfl, pour_0 p L, Int.add_zero]
theorem pour_step {p : Int} : ∀ {X : List Int} {n : Int}, 0 ≤ n → (∃ s ∈ X, s ≤ p) → pour p (n + 1) X = pour p n (sit p X)
  | [], _, _, h => by
    obtain ⟨_, m, _⟩ := h
    cases m
  | s :: L, n, hn, h => by
    unfold sit
    by_cases hs : s ≤ p
    · rw [if_pos hs, pour, pour]
      have e1 : plc s p = p + 1 - s := by
        unfold plc
        omega
      have e2 : plc (s + 1) p = p - s := by
        unfold plc
        omega
      rw [e1, e2, show s + min (n + 1) (p + 1 - s) = s + 1 + min n (p - s) by omega, show n + 1 - min (n + 1) (p + 1 - s) = n - min n (p - s) by omega]
    · rw [if_neg hs, pour, pour]
      have e1 : plc s p = 0 := by
        unfold plc
        omega
      obtain ⟨y, m, hy⟩ := h
      have m' : y ∈ L := by
        rcases List.mem_cons.mp m with z | z
        · exact absurd (z ▸ hy) hs
        · exact z
      rw [e1, show min (n + 1) 0 = 0 by omega, show min n 0 = 0 by omega, show n + 1 - 0 = n + 1 by omega, show n - 0 = n by omega, pour_step hn ⟨y, m', hy⟩]
theorem sit_pad {p : Int} (hp : 0 ≤ p) (m : Nat) : ∀ L : List Int, ∃ m' : Nat, m ≤ m' ∧ sit p (L ++ List.replicate (m + 1) 0) = sit p L ++ List.replicate m' 0
  | [] => ⟨m, Nat.le_refl _, by
    rw [List.nil_append, List.replicate_succ]
    unfold sit
    rw [if_pos hp]
    rfl⟩
  | s :: L => by
    rw [List.cons_append]
    unfold sit
    by_cases hs : s ≤ p
    · rw [if_pos hs, if_pos hs]
      exact ⟨m + 1, Nat.le_succ _, rfl⟩
    · rw [if_neg hs, if_neg hs]
      obtain ⟨m', h1, h2⟩ := sit_pad hp m L
      exact ⟨m', h1, by rw [h2]; rfl⟩
def pos (X : List Int) : List Int := X.filter fun s => decide (0 < s)
theorem pos_all {L : List Int} (h : ∀ s ∈ L, 0 < s) : pos L = L := List.filter_eq_self.mpr fun s m => decide_eq_true (h s m)
theorem pos_pad {L : List Int} (h : ∀ s ∈ L, 0 < s) (m : Nat) : pos (L ++ List.replicate m 0) = L := by
  unfold pos
  rw [List.filter_append]
  rw [show L.filter (fun s => decide (0 < s)) = L from pos_all h]
  rw [List.filter_eq_nil_iff.mpr fun s ms => by rw [(List.mem_replicate.mp ms).2]; decide, List.append_nil]
theorem sit_pos {p : Int} : ∀ {L : List Int}, (∀ s ∈ L, 0 < s) → ∀ s ∈ sit p L, 0 < s
  | [], _, s, m => by
    rw [List.mem_singleton.mp m]
    decide
  | x :: L, h, s, m => by
    unfold sit at m
    have hx := h x List.mem_cons_self
    by_cases c : x ≤ p
    · rw [if_pos c] at m
      rcases List.mem_cons.mp m with z | z
      · omega
      · exact h s (List.mem_cons_of_mem _ z)
    · rw [if_neg c] at m
      rcases List.mem_cons.mp m with z | z
      · omega
      · exact sit_pos (fun y my => h y (List.mem_cons_of_mem _ my)) s z
theorem sitN_pos {p : Int} : ∀ {n : Nat} {L : List Int}, (∀ s ∈ L, 0 < s) → ∀ s ∈ sitN p n L, 0 < s
  | 0, _, h => h
  | n + 1, L, h => sitN_pos (n := n) (L := sit p L) (sit_pos h)
theorem pour_sit {p : Int} (hp : 0 ≤ p) : ∀ {n m : Nat} {L : List Int}, n ≤ m → (∀ s ∈ L, 0 < s) → pos (pour p n (L ++ List.replicate m 0)) = sitN p n L
  | 0, m, L, _, h => by
    rw [show ((0 : Nat) : Int) = 0 from rfl, pour_0, pos_pad h]
    rfl
  | n + 1, m, L, hm, h => by
    obtain ⟨k, rfl⟩ : ∃ k, m = k + 1 := ⟨m - 1, by omega⟩
    rw [show ((n + 1 : Nat) : Int) = (n : Int) + 1 from rfl, pour_step (by omega) ⟨0, List.mem_append_right _ (List.mem_replicate.mpr ⟨by omega, rfl⟩), hp⟩]
    obtain ⟨m', h1, h2⟩ := sit_pad hp k L
    rw [h2, pour_sit hp (by omega) (sit_pos h)]
    rfl
/-- from the fullest on -/
def Dn (L : List Int) : Prop := L.Pairwise fun a b => b ≤ a
theorem sit_mem {p : Int} : ∀ {L : List Int} {y : Int}, y ∈ sit p L → y ∈ L ∨ y ≤ p + 1 ∨ y = 1
  | [], y, m => .inr (.inr (List.mem_singleton.mp m))
  | s :: L, y, m => by
    unfold sit at m
    by_cases c : s ≤ p
    · rw [if_pos c] at m
      rcases List.mem_cons.mp m with z | z
      · exact .inr (.inl (by omega))
      · exact .inl (List.mem_cons_of_mem _ z)
    · rw [if_neg c] at m
      rcases List.mem_cons.mp m with z | z
      · exact .inl (z ▸ List.mem_cons_self)
      · exact (sit_mem z).elim (fun w => .inl (List.mem_cons_of_mem _ w)) .inr
theorem sit_dn {p : Int} (hp : 0 ≤ p) : ∀ {L : List Int}, Dn L → Dn (sit p L)
  | [], _ => List.pairwise_singleton _ _
  | s :: L, h => by
    have ⟨h1, h2⟩ := List.pairwise_cons.mp h
    unfold sit
    by_cases c : s ≤ p
    · rw [if_pos c]
      exact List.pairwise_cons.mpr ⟨fun y m => by have := h1 y m; omega, h2⟩
    · rw [if_neg c]
      refine List.pairwise_cons.mpr ⟨fun y m => ?_, sit_dn hp h2⟩
      rcases sit_mem m with z | z | z
      · exact h1 y z
      · omega
      · omega
theorem sitN_dn {p : Int} (hp : 0 ≤ p) : ∀ {n : Nat} {L : List Int}, Dn L → Dn (sitN p n L)
  | 0, _, h => h
  | n + 1, L, h => sitN_dn hp (n := n) (L := sit p L) (sit_dn hp h)
theorem ex_nil : ex [] = [] := rfl
theorem ex_cons (r : Int × Int) (R : List (Int × Int)) : ex (r :: R) = List.replicate r.2.toNat r.1 ++ ex R := List.flatMap_cons
theorem ex_append (R S : List (Int × Int)) : ex (R ++ S) = ex R ++ ex S := List.flatMap_append
theorem grown_more {z c p k : Int} (hb : 0 < plc z p) (hk : 0 ≤ k) (hc : 0 ≤ c) (h : k ≤ c * plc z p) : ex (grownR z (c + 1) p (k + plc z p)) = (p + 1) :: ex (grownR z c p k) := by
  unfold grownR
  have hd : (k + plc z p) / plc z p = k / plc z p + 1 := Int.add_ediv_of_dvd_right (Int.dvd_refl _) |>.trans (by rw [Int.ediv_self (by omega)])
  have hm : (k + plc z p) % plc z p = k % plc z p := Int.add_emod_right ..
  have hq : 0 ≤ k / plc z p := Int.ediv_nonneg hk (by omega)
  rw [if_neg (show ¬ k + plc z p = 0 by omega), hd, hm]
  have e1 : (k / plc z p + 1).toNat = (k / plc z p).toNat + 1 := by omega
  by_cases k0 : k = 0
  · rw [if_pos k0, k0, Int.zero_emod, Int.zero_ediv, if_pos rfl]
    simp only [ex_cons, ex_nil, List.append_nil]
    rw [show c + 1 - (0 + 1) = c by omega]
    rfl
  · rw [if_neg k0]
    by_cases k1 : k % plc z p = 0
    · rw [if_pos k1, if_pos k1]
      simp only [ex_cons, ex_nil, List.append_nil]
      rw [e1, show c + 1 - (k / plc z p + 1) = c - k / plc z p by omega, List.replicate_succ]
      rfl
    · rw [if_neg k1, if_neg k1]
      simp only [ex_cons, ex_nil, List.append_nil]
      rw [e1, show c + 1 - (k / plc z p + 1) - 1 = c - k / plc z p - 1 by omega, List.replicate_succ]
      rfl
theorem pour_run {p z : Int} : ∀ {c : Nat} {n : Int} {X : List Int}, 0 ≤ n → pour p n (List.replicate c z ++ X) = ex (grownR z c p (min n (c * plc z p))) ++ pour p (n - min n (c * plc z p)) X
  | 0, n, X, hn => by
    rw [show ((0 : Nat) : Int) * plc z p = 0 by simp, show min n 0 = 0 by omega, show n - 0 = n by omega]
    rfl
  | c + 1, n, X, hn => by
    have hb := plc_nn z p
    rw [List.replicate_succ, List.cons_append, pour]
    have hcb : 0 ≤ (c : Int) * plc z p := Int.mul_nonneg (by omega) hb
    have hs : ((c + 1 : Nat) : Int) * plc z p = c * plc z p + plc z p := by
      rw [show ((c + 1 : Nat) : Int) = (c : Int) + 1 from rfl, Int.add_mul, Int.one_mul]
    rw [hs]
    by_cases b0 : plc z p = 0
    · rw [pour_run (by omega), b0]
      rw [show (c : Int) * 0 + 0 = 0 by simp, show (c : Int) * 0 = 0 by simp, show min n 0 = 0 by omega, show n - 0 = n by omega, show min n 0 = 0 by omega, show n - 0 = n by omega]
      show (z + 0) :: (ex [(z, (c : Int))] ++ pour p n X) = ex [(z, ((c + 1 : Nat) : Int))] ++ pour p n X
      rw [ex_cons, ex_cons, ex_nil, List.append_nil, List.append_nil]
      show (z + 0) :: (List.replicate c z ++ pour p n X) = List.replicate (c + 1) z ++ pour p n X
      rw [Int.add_zero, List.replicate_succ]
      rfl
    · by_cases hnb : plc z p ≤ n
      · rw [show min n (plc z p) = plc z p by omega, pour_run (by omega)]
        have e2 : z + plc z p = p + 1 := by
          unfold plc at b0 ⊢
          omega
        rw [e2, show min n (c * plc z p + plc z p) = min (n - plc z p) (c * plc z p) + plc z p by omega]
        have e3 := grown_more (z := z) (c := (c : Int)) (p := p) (k := min (n - plc z p) (c * plc z p)) (by omega) (by omega) (by omega) (by omega)
        rw [show ((c + 1 : Nat) : Int) = (c : Int) + 1 from rfl, e3, show n - (min (n - plc z p) (c * plc z p) + plc z p) = n - plc z p - min (n - plc z p) (c * plc z p) by omega]
        rfl
      · rw [show min n (plc z p) = n by omega, show min n (c * plc z p + plc z p) = n by omega, show n - n = 0 by omega, pour_0, pour_0]
        unfold grownR
        by_cases n0 : n = 0
        · rw [if_pos n0, n0, ex_cons, ex_nil, List.append_nil]
          show (z + 0) :: (List.replicate c z ++ X) = List.replicate (c + 1) z ++ X
          rw [Int.add_zero, List.replicate_succ]
          rfl
        · have e1 : n % plc z p = n := Int.emod_eq_of_lt hn (by omega)
          have e2 : n / plc z p = 0 := Int.ediv_eq_zero_of_lt hn (by omega)
          rw [if_neg n0, e1, if_neg n0, e2]
          simp only [ex_cons, ex_nil, List.append_nil]
          rw [show ((c + 1 : Nat) : Int) - 0 - 1 = (c : Int) by omega]
          rfl
/-- a list of sizes, told as how many there are of each -/
structure Rle (R : List (Int × Int)) (L : List Int) : Prop where
  e : L = ex R
  d : R.Pairwise fun a b => b.1 < a.1
  p : ∀ r ∈ R, 0 < r.1 ∧ 0 < r.2
theorem ex_mem {R : List (Int × Int)} {y : Int} (m : y ∈ ex R) : ∃ r ∈ R, r.1 = y := by
  obtain ⟨r, mr, my⟩ := List.mem_flatMap.mp m
  exact ⟨r, mr, (List.mem_replicate.mp my).2.symm⟩
theorem ex_dn : ∀ {R : List (Int × Int)}, (R.Pairwise fun a b => b.1 < a.1) → Dn (ex R)
  | [], _ => .nil
  | r :: R, h => by
    have ⟨h1, h2⟩ := List.pairwise_cons.mp h
    rw [ex_cons]
    refine List.pairwise_append.mpr ⟨List.pairwise_replicate.mpr (.inr (Int.le_refl _)), ex_dn h2, fun a ma b mb => ?_⟩
    rw [(List.mem_replicate.mp ma).2]
    obtain ⟨x, mx, ex_⟩ := ex_mem mb
    have := h1 x mx
    omega
/-- how many of this size -/
def cnt (R : List (Int × Int)) (z : Int) : Int := ((ex R).count z : Nat)
theorem cnt_nil (z : Int) : cnt [] z = 0 := rfl
theorem cnt_append (R S : List (Int × Int)) (z : Int) : cnt (R ++ S) z = cnt R z + cnt S z := by
  unfold cnt
  rw [ex_append, List.count_append]
  rfl
theorem cnt_one (y c z : Int) (hc : 0 ≤ c) : cnt [(y, c)] z = if y = z then c else 0 := by
  unfold cnt
  rw [ex_cons, ex_nil, List.append_nil, List.count_replicate]
  by_cases h : y = z
  · rw [if_pos h, if_pos (by simp [h])]
    show ((c.toNat : Nat) : Int) = c
    omega
  · rw [if_neg h, if_neg (by simp [h])]
    rfl
theorem dn_eq : ∀ {L M : List Int}, Dn L → Dn M → L.Perm M → L = M
  | [], M, _, _, h => (List.nil_perm.mp h).symm
  | x :: L, [], _, _, h => (List.cons_ne_nil _ _ (List.perm_nil.mp h)).elim
  | x :: L, y :: M, h1, h2, h => by
    have ⟨a1, a2⟩ := List.pairwise_cons.mp h1
    have ⟨b1, b2⟩ := List.pairwise_cons.mp h2
    have e : x = y := by
      rcases List.mem_cons.mp (h.mem_iff.mp List.mem_cons_self) with z | z
      · exact z
      rcases List.mem_cons.mp (h.mem_iff.mpr List.mem_cons_self) with w | w
      · exact w.symm
      · have := b1 x z
        have := a1 y w
        omega
    subst e
    rw [dn_eq a2 b2 (List.Perm.cons_inv h)]
end El
namespace El
open PySem PySem.Spec PyProof.Rows L2
/-! ### a dict that counts -/
def putG (gs : List (Int × Int)) (z v : Int) : List (Int × Int) := if z ∈ gs.map (·.1) then gs.map (fun g => if g.1 = z then (g.1, v) else g) else gs ++ [(z, v)]
theorem putG_pks (gs : List (Int × Int)) (z v : Int) : putK (pks gs) (Sum.inl z : L2.Key) (V.int v) = pks (putG gs z v) := by
  have e : (pks gs).any (fun kv => decide (kv.1 = (Sum.inl z : L2.Key))) = decide (z ∈ gs.map (·.1)) := by
    induction gs with
    | nil => rfl
    | cons g gs ih =>
      show (decide ((Sum.inl g.1 : L2.Key) = Sum.inl z) || (pks gs).any (fun kv => decide (kv.1 = (Sum.inl z : L2.Key)))) = decide (z ∈ g.1 :: gs.map (·.1))
      rw [ih]
      by_cases h : g.1 = z
      · rw [h]
        simp
      · rw [decide_eq_false (show ¬ (Sum.inl g.1 : L2.Key) = Sum.inl z from fun y => h (Sum.inl.inj y)), Bool.false_or]
        refine decide_eq_decide.mpr ⟨fun m => List.mem_cons_of_mem _ m, fun m => ?_⟩
        rcases List.mem_cons.mp m with y | y
        · exact absurd y.symm h
        · exact y
  unfold putK putG
  rw [e]
  by_cases h : z ∈ gs.map (·.1)
  · rw [if_pos (decide_eq_true h), if_pos h]
    show (gs.map fun g => ((Sum.inl g.1 : L2.Key), V.int g.2)).map _ = (gs.map _).map _
    rw [List.map_map, List.map_map]
    refine List.map_congr_left fun g _ => ?_
    show (if (Sum.inl g.1 : L2.Key) = Sum.inl z then ((Sum.inl g.1 : L2.Key), V.int v) else (Sum.inl g.1, V.int g.2)) = (Sum.inl (if g.1 = z then (g.1, v) else g).1, V.int (if g.1 = z then (g.1, v) else g).2)
    by_cases y : g.1 = z
    · rw [if_pos (by rw [y]), if_pos y]
    · rw [if_neg (fun k => y (Sum.inl.inj k)), if_neg y]
  · rw [if_neg (by rw [decide_eq_true_iff]; exact h), if_neg h]
    rw [pks_snoc]
theorem putG_keys (gs : List (Int × Int)) (z v : Int) : (putG gs z v).map (·.1) = if z ∈ gs.map (·.1) then gs.map (·.1) else gs.map (·.1) ++ [z] := by
  unfold putG
  by_cases h : z ∈ gs.map (·.1)
  · rw [if_pos h, if_pos h, List.map_map]
    refine List.map_congr_left fun g _ => ?_
    show (if g.1 = z then (g.1, v) else g).1 = g.1
    split <;> rfl
  · rw [if_neg h, if_neg h, List.map_append]
    rfl
theorem putG_nd {gs : List (Int × Int)} {z v : Int} (nd : (gs.map (·.1)).Nodup) : ((putG gs z v).map (·.1)).Nodup := by
  rw [putG_keys]
  by_cases h : z ∈ gs.map (·.1)
  · rw [if_pos h]
    exact nd
  · rw [if_neg h]
    exact List.nodup_append.mpr ⟨nd, by simp, fun a ha b hb => by
      rw [List.mem_singleton.mp hb]
      exact fun e => h (e ▸ ha)⟩
theorem pof_nil (a : Int) : pof [] a = 0 := rfl
theorem pof_cons (g : Int × Int) (gs : List (Int × Int)) (a : Int) : pof (g :: gs) a = if g.1 = a then g.2 else pof gs a := by
  unfold pof
  rw [List.find?_cons]
  by_cases h : g.1 = a
  · simp [h]
  · simp [h]
theorem pof_out : ∀ {gs : List (Int × Int)} {a : Int}, a ∉ gs.map (·.1) → pof gs a = 0
  | [], _, _ => rfl
  | g :: gs, a, h => by
    rw [pof_cons, if_neg (show ¬ g.1 = a from fun e => h (by rw [← e]; exact List.mem_cons_self)), pof_out fun m => h (List.mem_cons_of_mem _ m)]
theorem pof_append_out : ∀ {gs hs : List (Int × Int)} {a : Int}, a ∉ gs.map (·.1) → pof (gs ++ hs) a = pof hs a
  | [], _, _, _ => rfl
  | g :: gs, hs, a, h => by
    rw [List.cons_append, pof_cons, if_neg (show ¬ g.1 = a from fun e => h (by rw [← e]; exact List.mem_cons_self)), pof_append_out fun m => h (List.mem_cons_of_mem _ m)]
theorem pof_append_in : ∀ {gs hs : List (Int × Int)} {a : Int}, a ∈ gs.map (·.1) → pof (gs ++ hs) a = pof gs a
  | [], _, _, h => (List.not_mem_nil h).elim
  | g :: gs, hs, a, h => by
    rw [List.cons_append, pof_cons, pof_cons]
    by_cases e : g.1 = a
    · rw [if_pos e, if_pos e]
    · rw [if_neg e, if_neg e]
      rcases List.mem_cons.mp h with y | y
      · exact absurd y.symm e
      · exact pof_append_in y
theorem putG_pof (gs : List (Int × Int)) (z v y : Int) : pof (putG gs z v) y = if y = z then v else pof gs y := by
  unfold putG
  by_cases h : z ∈ gs.map (·.1)
  · rw [if_pos h]
    induction gs with
    | nil => exact (List.not_mem_nil h).elim
    | cons g gs ih =>
      rw [List.map_cons, pof_cons, pof_cons]
      by_cases e : g.1 = z
      · rw [if_pos e]
        by_cases f : y = z
        · rw [if_pos f, if_pos (e.trans f.symm)]
        · rw [if_neg f, if_neg (fun k => f (k.symm.trans e)), if_neg (fun k => f (k.symm.trans e))]
          by_cases m : z ∈ gs.map (·.1)
          · rw [ih m, if_neg f]
          · congr 1
            refine (List.map_congr_left fun x mx => ?_).trans (List.map_id' gs)
            exact if_neg (show ¬ x.1 = z from fun k => m (by rw [← k]; exact List.mem_map_of_mem mx))
      · rw [if_neg e]
        have m : z ∈ gs.map (·.1) := (List.mem_cons.mp h).resolve_left fun k => e k.symm
        rw [ih m]
        by_cases f : y = z
        · rw [if_pos f, if_neg (fun k => e (k.trans f)), if_pos f]
        · rw [if_neg f, if_neg f]
  · rw [if_neg h]
    by_cases f : y = z
    · rw [if_pos f, f, pof_append_out h, pof_cons, if_pos rfl]
    · rw [if_neg f]
      by_cases m : y ∈ gs.map (·.1)
      · rw [pof_append_in m]
      · rw [pof_append_out m, pof_cons, if_neg fun k => f k.symm, pof_nil, pof_out m]
theorem val_pof {gs : List (Int × Int)} (nd : (gs.map (·.1)).Nodup) (z : Int) : (valV (pks gs) (Sum.inl z)).getD (.int 0) = .int (pof gs z) := by
  by_cases h : z ∈ gs.map (·.1)
  · rw [pks_get nd h]
    rfl
  · rw [pks_none h, pof_out h]
    rfl
/-- the dict has counted these -/
structure Hist (gs E : List (Int × Int)) : Prop where
  nd : (gs.map (·.1)).Nodup
  c : ∀ z, pof gs z = cnt E z
theorem Hist.nil : Hist [] [] := ⟨List.nodup_nil, fun _ => rfl⟩
theorem Hist.put {gs E : List (Int × Int)} (h : Hist gs E) {y c : Int} (hc : 0 ≤ c) : Hist (putG gs y (pof gs y + c)) (E ++ [(y, c)]) :=
  ⟨putG_nd h.nd, fun z => by
    rw [putG_pof, cnt_append, cnt_one y c z hc]
    by_cases e : z = y
    · rw [if_pos e, if_pos e.symm, h.c, e]
    · rw [if_neg e, if_neg fun k => e k.symm, h.c, Int.add_zero]⟩
theorem cnt_nn (E : List (Int × Int)) (z : Int) : 0 ≤ cnt E z := Int.natCast_nonneg _
theorem cnt_pof : ∀ {gs : List (Int × Int)}, (gs.map (·.1)).Nodup → (∀ g ∈ gs, 0 ≤ g.2) → ∀ z, cnt gs z = pof gs z
  | [], _, _, _ => rfl
  | g :: gs, nd, hp, z => by
    have ⟨n1, n2⟩ := List.nodup_cons.mp nd
    rw [show g :: gs = [g] ++ gs from rfl, cnt_append, show [g] = [(g.1, g.2)] from rfl, cnt_one g.1 g.2 z (hp g List.mem_cons_self), cnt_pof n2 (fun x m => hp x (List.mem_cons_of_mem _ m)), show [(g.1, g.2)] ++ gs = g :: gs from rfl, pof_cons]
    by_cases e : g.1 = z
    · rw [if_pos e, if_pos e, pof_out (e ▸ n1), Int.add_zero]
    · rw [if_neg e, if_neg e, Int.zero_add]
theorem Hist.vals {gs E : List (Int × Int)} (h : Hist gs E) : ∀ g ∈ gs, g.2 = cnt E g.1 := fun g m => by rw [← h.c, pof_is h.nd m]
def live (g : Int × Int) : Bool := decide (0 < g.1) && decide (0 < g.2)
theorem ex_perm {R S : List (Int × Int)} (h : R.Perm S) : (ex R).Perm (ex S) := h.flatMap_right _
/-- what the dict tells, sorted -/
theorem Hist.rle {gs E : List (Int × Int)} (h : Hist gs E) {M : List Int} (e : M = pos (ex E)) (dn : Dn M) : Fit (gs.filter live) ∧ Rle (byAge (gs.filter live)) M := by
  have lv : ∀ g ∈ gs.filter live, g ∈ gs ∧ 0 < g.1 ∧ 0 < g.2 := fun g m => by
    have ⟨a, b⟩ := List.mem_filter.mp m
    unfold live at b
    rw [Bool.and_eq_true, decide_eq_true_iff, decide_eq_true_iff] at b
    exact ⟨a, b⟩
  have F : Fit (gs.filter live) := ⟨(List.filter_sublist.map _).nodup h.nd, fun g m => Int.le_of_lt (lv g m).2.2⟩
  have d : (byAge (gs.filter live)).Pairwise fun a b => b.1 < a.1 :=
    (List.pairwise_and_iff.mpr ⟨byAge_sorted _, List.pairwise_map.mp F.byAge.nd⟩).imp fun {a b} h => by
      have h1 := h.1
      have h2 := h.2
      omega
  refine ⟨F, ?_, d, fun r m => (lv r ((byAge_perm _).mem_iff.mp m)).2⟩
  refine dn_eq dn (ex_dn d) ?_
  refine List.Perm.trans ?_ (ex_perm (byAge_perm _)).symm
  refine List.perm_iff_count.mpr fun z => ?_
  have k1 : ((ex (gs.filter live)).count z : Int) = pof (gs.filter live) z := cnt_pof F.nd (fun g m => F.pos g m) z
  have k2 : ((ex E).count z : Int) = pof gs z := (h.c z).symm
  have k3 : (M.count z : Int) = if 0 < z then pof gs z else 0 := by
    rw [e]
    unfold pos
    by_cases hz : 0 < z
    · rw [if_pos hz, List.count_filter (p := fun s => decide (0 < s)) (a := z) (l := ex E) (decide_eq_true hz), k2]
    · rw [if_neg hz, List.count_eq_zero_of_not_mem (a := z) (fun m => hz (of_decide_eq_true (show decide (0 < z) = true from (List.mem_filter.mp m).2)))]
      rfl
  have k4 : pof (gs.filter live) z = if 0 < z then pof gs z else 0 := by
    by_cases m : z ∈ (gs.filter live).map (·.1)
    · obtain ⟨g, mg, eg⟩ := List.mem_map.mp m
      have ⟨a, b, c⟩ := lv g mg
      rw [← eg, pof_is F.nd mg, if_pos b, pof_is h.nd a]
    · rw [pof_out m]
      by_cases hz : 0 < z
      · rw [if_pos hz]
        by_cases k : z ∈ gs.map (·.1)
        · obtain ⟨g, mg, eg⟩ := List.mem_map.mp k
          rw [← eg, pof_is h.nd mg]
          have v := h.vals g mg
          have nn := cnt_nn E g.1
          have : ¬ 0 < g.2 := fun b => m (List.mem_map.mpr ⟨g, List.mem_filter.mpr ⟨mg, by
            unfold live
            rw [decide_eq_true (eg ▸ hz), decide_eq_true b]
            rfl⟩, eg⟩)
          omega
        · rw [pof_out k]
      · rw [if_neg hz]
  have : ((M.count z : Nat) : Int) = ((ex (gs.filter live)).count z : Nat) := by rw [k3, k1, k4]
  omega
end El
namespace El
open PySem PySem.Spec PyProof.Rows L2
/-- a method as the top has written it -/
structure Ma (K : PySem.W.Frag) (C : Addr) (m q : Str) (ps : List Str) (st : Stmt) : Prop where
  ex : ∃ (f : Addr) (fd : FuncData), Fun K m q st f fd ∧ Meth K C m f ∧ Binds K fd ps []
/-- a method and what it promises -/
structure Mf (P : Program) (w : World) (K : PySem.W.Frag) (mg : Str → Option Value) (base : Heap) (k : Nat) (C : Addr) (m q : Str) (ps : List Str) (st : Stmt) (sp : Sp) : Prop where
  ex : ∃ (f : Addr) (fd : FuncData), Fun K m q st f fd ∧ Meth K C m f ∧ Binds K fd ps [] ∧ FnOk P w K mg base CX0 k f fd ps sp
theorem Ma.mf {P : Program} {w : World} {K : PySem.W.Frag} {mg : Str → Option Value} {base : Heap} {k : Nat} {C : Addr} {m q : Str} {ps : List Str} {st : Stmt} {sp : Sp} (A : Ma K C m q ps st)
    (h : ∀ f fd, Fun K m q st f fd → FnOk P w K mg base CX0 k f fd ps sp) : Mf P w K mg base k C m q ps st sp := by
  obtain ⟨f, fd, F, M, b⟩ := A.ex
  exact ⟨f, fd, F, M, b, h f fd F⟩
section
variable {X : Cx} {k : Nat} {C : Addr} {m q : Str} {st : Stmt} {ps : List Str} {sp : Sp} {pos apos : Pos} {o e : Expr} {es : List Expr} {ta : TE} {t : TA}
/-- o.m(e, ..) -/
theorem pe_mf {pl : Sem Bool} (D : Mf X.prog X.w X.K X.mg X.base k C m q ps st sp) (c : Cls X.K C) (hr : Room k X.A) (he : PE X o ta) (ha : PA X (e :: es) t)
    (hst : starEach (e :: es) X.env = (false, eval e X.env) :: starEach es X.env := by rfl) (hpl : (backTo pos (starEach es X.env)).any (·.1) = false := by rfl)
    (ht : eval (.Call (.Attribute o m apos) (e :: es) [] pos) X.env = (do
      let ov ← eval o X.env
      standAt apos.atName
      let (f, first) ← holding [ov] (getMethod ov m pl)
      callWith pos f first (backTo pos (starEach (e :: es) X.env)) (backToKw pos (keywordEach [] X.env))) := by rfl) :
    PE X (.Call (.Attribute o m apos) (e :: es) [] pos) (tMeth C m sp [] E0 ta t) := by
  obtain ⟨f, fd, _, M, b, F⟩ := D.ex
  exact pe_meth (pl := pl) he c M F hr b .nil pass0 ha hst hpl ht
/-- o.m() -/
theorem pe_mf0 {pl : Sem Bool} (D : Mf X.prog X.w X.K X.mg X.base k C m q ps st sp) (c : Cls X.K C) (hr : Room k X.A) (he : PE X o ta)
    (ht : eval (.Call (.Attribute o m apos) [] [] pos) X.env = (do
      let ov ← eval o X.env
      standAt apos.atName
      let (f, first) ← holding [ov] (getMethod ov m pl)
      callWith pos f first (backTo pos (starEach [] X.env)) (backToKw pos (keywordEach [] X.env))) := by rfl) :
    PE X (.Call (.Attribute o m apos) [] [] pos) (tMeth C m sp [] E0 ta tNil) := by
  obtain ⟨f, fd, _, M, b, F⟩ := D.ex
  exact pe_meth0 (pl := pl) he c M F hr b .nil pass0 ht
/-- the reading of o.m(k = v, ..): the values in the order of g, behind the object -/
def tMethW (C : Addr) (m : Str) (n : Nat) (sp : Sp) (g : List V → List V) (ta : TE) (tk : TA) : TE := fun σ H Q => ta σ H fun x H1 => ∃ a dx fs, x = .ref a ∧ H1 a = some (.ins C dx fs) ∧ fs.lookup m = none ∧
  tk σ H1 fun zs H2 => zs.length = n ∧ sp (x :: g zs) H2 Q E0
theorem pe_mfK {kws : List Keyword} {tk : TA} {pl : Sem Bool} (D : Mf X.prog X.w X.K X.mg X.base k C m q ps st sp) (c : Cls X.K C) (ks : List Str) (g : {α : Type} → List α → List α) (hr : Room k X.A) (he : PE X o ta) (hkw : PK X kws tk)
    (hb : ∀ (kV doc pm : Value) (an : Option Addr) (cdv ct : Value) (u : Value) (ws : List Value), ws.length = ks.length → bindArgs (PySem.W.fnOf m q (defArgs st) (defBody st) (defScope st) .none kV doc pm an cdv ct) ⟨[u], ks.zip ws⟩ = pure (ps.zip (u :: g ws)))
    (hrel : ∀ {zs : List V} {ws : List Value}, Vals zs ws → Vals (g zs) (g ws))
    (hall : (backToKw pos (keywordEach kws X.env)).all (·.1.isSome) = true := by rfl) (hks : (backToKw pos (keywordEach kws X.env)).filterMap (·.1) = ks := by rfl)
    (hpl : ((backTo pos (starEach [] X.env)).any (·.1) || (backToKw pos (keywordEach kws X.env)).any (·.1.isNone)) = false := by rfl)
    (ht : eval (.Call (.Attribute o m apos) [] kws pos) X.env = (do
      let ov ← eval o X.env
      standAt apos.atName
      let (f, first) ← holding [ov] (getMethod ov m pl)
      callWith pos f first (backTo pos (starEach [] X.env)) (backToKw pos (keywordEach kws X.env))) := by rfl) :
    PE X (.Call (.Attribute o m apos) [] kws pos) (tMethW C m ks.length sp (fun zs => g zs) ta tk) := by
  obtain ⟨f, fd, F, M, b, G⟩ := D.ex
  have KB : KBn X.K fd ps 1 ks (fun us ws => us ++ g ws) (fun vs zs => vs ++ g zs) := by
    obtain ⟨oc, od, kV, doc, pm, an, cdv, ct, osl, rfl, lk, hcd⟩ := F.ex
    refine ⟨fun s us ws hK l1 l2 => ?_, fun {vs us zs ws} r rz => Vals.append r (hrel rz)⟩
    match us, l1 with
    | [u], _ => exact .of_eq (hb kV doc pm an cdv ct u ws l2)
  refine ⟨fun pins s σ H Q I h => ?_⟩
  refine PySem.W.methodCall_KW (pl := pl) (thn (he.run pins s σ H _ I h) fun u s1 ⟨x, H1, I1, rx, a, dx, fs, ex, ea, l, q⟩ => ?_) ht
  subst ex
  obtain rfl : u = Value.ref a := rx
  refine getmeth_ok I1 ea c M l ?_
  refine PySem.W.callWith_KW0 (first := [.ref a]) (h₀ := X.base) I.ok.mod.kin M.kp hall ?_ hpl
  refine thn (hkw.run pos pins s1 σ H1 _ I1 q) fun ws s2 ⟨zs, H2, I2, rz, l2, q2⟩ => ⟨I2.kIn, ?_⟩
  rw [hks]
  exact run_fnN (us := [.ref a]) (vs := [.ref a]) G hr KB pass0 I2 (.cons rfl .nil) rz rfl l2 q2
end
/-! ### what an Inn looks like between two calls -/
theorem npr : ¬ (("_patience_of" : Str) = "_rooms") := by decide +kernel
/-- its fields in the order in which they are set -/
def iflds (d o : Addr) : List (Str × V) := putF "_rooms" (.ref o) (putF "_patience_of" (.ref d) [])
theorem iflds_p (d o : Addr) : (iflds d o).lookup ("_patience_of" : Str) = some (.ref d) := by
  unfold iflds
  rw [lookup_putF, if_neg npr, lookup_putF, if_pos rfl]
theorem iflds_r (d o : Addr) : (iflds d o).lookup ("_rooms" : Str) = some (.ref o) := by
  unfold iflds
  rw [lookup_putF, if_pos rfl]
theorem iflds_no (d o : Addr) {m : Str} (h1 : ¬ m = "_rooms") (h2 : ¬ m = "_patience_of") : (iflds d o).lookup m = none := by
  unfold iflds
  rw [lookup_putF, if_neg h1, lookup_putF, if_neg h2]
  rfl
/-- what of the text the class has -/
structure InnT (K : PySem.W.Frag) (mg : Str → Option Value) (C : Addr) : Prop where
  cl : Cls K C
  nP : NoAttr K C "_patience_of"
  nR : NoAttr K C "_rooms"
  mgC : mg "Inn" = some (.ref C)
/-- an Inn at p: the guests gs in the order in which they came, the rooms rs; all it owns lies in B -/
structure InnAt (C : Addr) (H : Hp) (B : Addr → Prop) (p d o : Addr) (ts : List Addr) (gs : List (Int × Int)) (rs : List (List Int)) : Prop where
  ob : ∃ dx, H p = some (.ins C dx (iflds d o))
  dc : H d = some (.dK (pks gs))
  rm : RmsAt H B o ts rs
  bp : B p
  bd : B d
theorem InnAt.keep {C : Addr} {H H' : Hp} {B : Addr → Prop} {p d o : Addr} {ts : List Addr} {gs : List (Int × Int)} {rs : List (List Int)} (h : InnAt C H B p d o ts gs rs) (k : Kp B H H') : InnAt C H' B p d o ts gs rs := by
  obtain ⟨⟨dx, e⟩, dc, rm, bp, bd⟩ := h
  exact ⟨⟨dx, k _ _ bp e⟩, k _ _ bd dc, rm.keep k, bp, bd⟩
theorem InnAt.same {C : Addr} {H H' : Hp} {B : Addr → Prop} {p d o : Addr} {ts : List Addr} {gs : List (Int × Int)} {rs : List (List Int)} (h : InnAt C H B p d o ts gs rs) (k : Same H H') : InnAt C H' B p d o ts gs rs := h.keep (.of k)
theorem InnAt.pd {C : Addr} {H : Hp} {B : Addr → Prop} {p d o : Addr} {ts : List Addr} {gs : List (Int × Int)} {rs : List (List Int)} (h : InnAt C H B p d o ts gs rs) : p ≠ d := fun z => by
  obtain ⟨dx, e⟩ := h.ob
  rw [z, h.dc] at e
  cases e
theorem InnAt.po {C : Addr} {H : Hp} {B : Addr → Prop} {p d o : Addr} {ts : List Addr} {gs : List (Int × Int)} {rs : List (List Int)} (h : InnAt C H B p d o ts gs rs) : p ≠ o := fun z => by
  obtain ⟨dx, e⟩ := h.ob
  rw [z, h.rm.top] at e
  cases e
theorem InnAt.od {C : Addr} {H : Hp} {B : Addr → Prop} {p d o : Addr} {ts : List Addr} {gs : List (Int × Int)} {rs : List (List Int)} (h : InnAt C H B p d o ts gs rs) : o ≠ d := fun z => by
  have e := h.dc
  rw [← z, h.rm.top] at e
  cases e
theorem InnAt.room {C : Addr} {H : Hp} {B : Addr → Prop} {p d o : Addr} {ts : List Addr} {gs : List (Int × Int)} {rs : List (List Int)} (h : InnAt C H B p d o ts gs rs) {t : Addr} (m : t ∈ ts) : t ≠ p ∧ t ≠ d := by
  obtain ⟨i, e⟩ := List.mem_iff_getElem?.mp m
  have hl := at_lt e
  rw [h.rm.len] at hl
  obtain ⟨r, er⟩ := at_some hl
  have e1 := h.rm.at' i t r e er
  refine ⟨fun z => ?_, fun z => ?_⟩
  · obtain ⟨dx, e2⟩ := h.ob
    rw [← z, e1] at e2
    cases e2
  · have e2 := h.dc
    rw [← z, e1] at e2
    cases e2
/-- its rooms alone have changed -/
theorem InnAt.rooms {C : Addr} {H H' : Hp} {B : Addr → Prop} {p d o : Addr} {ts ts' : List Addr} {gs : List (Int × Int)} {rs rs' : List (List Int)} (h : InnAt C H B p d o ts gs rs) (k : Kp (fun b => b ≠ o ∧ b ∉ ts) H H') (r : RmsAt H' B o ts' rs') : InnAt C H' B p d o ts' gs rs' := by
  obtain ⟨dx, e⟩ := h.ob
  exact ⟨⟨dx, k _ _ ⟨h.po, fun m => (h.room m).1 rfl⟩ e⟩, k _ _ ⟨h.od.symm, fun m => (h.room m).2 rfl⟩ h.dc, r, h.bp, h.bd⟩
/-- guest a has entered room i -/
def enterR (rs : List (List Int)) (i : Nat) (a : Int) : List (List Int) := if i < rs.length then rs.set i (down (rs.getD i [] ++ [a])) else rs ++ [[a]]
theorem enterR_old {rs : List (List Int)} {i : Nat} {r : List Int} (a : Int) (h : rs[i]? = some r) : enterR rs i a = rs.set i (down (r ++ [a])) := by
  unfold enterR
  rw [if_pos (at_lt h), List.getD_eq_getElem?_getD, h]
  rfl
theorem enterR_new (rs : List (List Int)) (a : Int) : enterR rs rs.length a = rs ++ [[a]] := if_neg (Nat.lt_irrefl _)
/-- another list in the place of one -/
theorem RmsAt.put {H : Hp} {B : Addr → Prop} {o q : Addr} {ts : List Addr} {rs : List (List Int)} {i : Nat} {r : List Int} (h : RmsAt H B o ts rs) (hi : i < rs.length) (e : H q = some (.lst (r.map V.int))) (bq : B q) (nq : q ∉ ts) (qo : q ≠ o) :
    RmsAt (upd H o (.lst ((ts.set i q).map V.ref))) B o (ts.set i q) (rs.set i r) := by
  have inn : ∀ t ∈ ts.set i q, t = q ∨ t ∈ ts := fun t m => (List.mem_or_eq_of_mem_set m).symm
  have hn : ∀ t ∈ ts.set i q, t ≠ o := fun t m z => by
    rcases inn t m with y | y
    · exact qo (y ▸ z)
    · exact h.no (z ▸ y)
  refine ⟨upd_same, h.bo, ?_, fun m => hn o m rfl, ?_, fun j t x e1 e2 => ?_, fun t m => ?_⟩
  · rw [List.nodup_iff_pairwise_ne, List.pairwise_iff_getElem]
    intro a b ha hb hab
    rw [List.length_set] at ha hb
    rw [List.getElem_set, List.getElem_set]
    by_cases h1 : i = a
    · by_cases h2 : i = b
      · omega
      · rw [if_pos h1, if_neg h2]
        exact fun z => nq (z ▸ List.getElem_mem hb)
    · by_cases h2 : i = b
      · rw [if_neg h1, if_pos h2]
        exact fun z => nq (z ▸ List.getElem_mem ha)
      · rw [if_neg h1, if_neg h2]
        exact List.pairwise_iff_getElem.mp (List.nodup_iff_pairwise_ne.mp h.nd) a b ha hb hab
  · rw [List.length_set, List.length_set]
    exact h.len
  · rw [upd_ne (hn t (List.mem_of_getElem? e1))]
    by_cases hj : i = j
    · subst hj
      rw [List.getElem?_set_self (by rw [h.len]; exact hi)] at e1
      rw [List.getElem?_set_self hi] at e2
      obtain rfl : q = t := Option.some.inj e1
      obtain rfl : r = x := Option.some.inj e2
      exact e
    · rw [List.getElem?_set_ne hj] at e1 e2
      exact h.at' j t x e1 e2
  · rcases inn t m with rfl | m
    · exact bq
    · exact h.b t m
theorem RmsAt.lives {H : Hp} {B : Addr → Prop} {o : Addr} {ts : List Addr} {rs : List (List Int)} (h : RmsAt H B o ts rs) {t : Addr} (m : t ∈ ts) : ∃ r : List Int, H t = some (.lst (r.map V.int)) := by
  obtain ⟨i, e⟩ := List.mem_iff_getElem?.mp m
  have hl := at_lt e
  rw [h.len] at hl
  obtain ⟨r, er⟩ := at_some hl
  exact ⟨r, h.at' i t r e er⟩
theorem RmsAt.reL {H : Hp} {B B' : Addr → Prop} {o : Addr} {ts : List Addr} {rs : List (List Int)} (h : RmsAt H B o ts rs) (k : ∀ b, (∃ v, H b = some v) → B b → B' b) : RmsAt H B' o ts rs :=
  ⟨h.top, k _ ⟨_, h.top⟩ h.bo, h.nd, h.no, h.len, h.at', fun t m => k _ (let ⟨r, e⟩ := h.lives m; ⟨_, e⟩) (h.b t m)⟩
theorem InnAt.reB {C : Addr} {H : Hp} {B B' : Addr → Prop} {p d o : Addr} {ts : List Addr} {gs : List (Int × Int)} {rs : List (List Int)} (h : InnAt C H B p d o ts gs rs) (k : ∀ b, (∃ v, H b = some v) → B b → B' b) : InnAt C H B' p d o ts gs rs :=
  ⟨h.ob, h.dc, h.rm.reL k, k _ (let ⟨dx, e⟩ := h.ob; ⟨_, e⟩) h.bp, k _ ⟨_, h.dc⟩ h.bd⟩
theorem ifYes {c : Bool} {A B : Prop} (hc : c = true) (h : A) : if c = true then A else B := by
  subst hc
  exact iteT h
theorem ifNo {c : Bool} {A B : Prop} (hc : c = false) (h : B) : if c = true then A else B := by
  subst hc
  exact iteF h
end El
namespace El
/-- rooms in which somebody is on the way: x is to enter room i -/
def Mid (gs : List (Int × Int)) (rs : List (List Int)) (i : Nat) (x : Int × Int) : Prop :=
  ∃ (D : List (List Int)) (L L' : List (Int × Int)), rs = D ++ settleL L ∧ D.length = i ∧ Comes x L L' ∧ L'.Sublist (byAge gs) ∧ settle gs = D ++ settleL L'
theorem Comes.sub {x : Int × Int} {L L' : List (Int × Int)} (h : Comes x L L') : L.Sublist L' := by
  obtain ⟨pre, post, rfl, rfl⟩ := h
  exact (List.Sublist.refl pre).append (List.sublist_cons_self x post)
theorem Comes.mem {x : Int × Int} {L L' : List (Int × Int)} (h : Comes x L L') : x ∈ L' := by
  obtain ⟨pre, post, _, rfl⟩ := h
  simp
theorem Comes.has {x g : Int × Int} {L L' : List (Int × Int)} (h : Comes x L L') (m : g ∈ L) : g ∈ L' := h.sub.subset m
theorem Mid.start {gs : List (Int × Int)} {x : Int × Int} (F : Fit (gs ++ [x])) : Mid (gs ++ [x]) (settle gs) 0 x := by
  have p : (x :: gs).Perm (gs ++ [x]) := by
    have := List.perm_append_comm (l₁ := [x]) (l₂ := gs)
    exact this
  obtain ⟨pre, post, e1, e2⟩ := byAge_split (F.perm p)
  have e3 : byAge (gs ++ [x]) = pre ++ x :: post := by
    rw [← e1]
    exact (byAge_congr F p).symm
  refine ⟨[], byAge gs, byAge (gs ++ [x]), rfl, rfl, ⟨pre, post, e2, e3⟩, List.Sublist.refl _, rfl⟩
theorem Mid.first {gs : List (Int × Int)} {rs : List (List Int)} {i : Nat} {x : Int × Int} (F : Fit gs) (M : Mid gs rs i x) : i < (settle gs).length ∧ i ≤ rs.length ∧ rs.length ≤ 2 * gs.length ∧ (∀ r ∈ rs, r.length ≤ gs.length) ∧ x ∈ gs := by
  obtain ⟨D, L, L', e1, e2, c, s, e3⟩ := M
  have pos : ∀ g ∈ L', 0 ≤ g.2 := fun g m => F.pos g ((byAge_perm gs).mem_iff.mp (s.subset m))
  have ne : L' ≠ [] := fun z => by
    have := c.mem
    rw [z] at this
    cases this
  have l1 := s.length_le
  rw [byAge_length] at l1
  have l2 := c.sub.length_le
  have l3 := settleL_len (byAge gs)
  rw [byAge_length] at l3
  have l3' : (settle gs).length ≤ gs.length := l3
  have l4 := settleL_len L
  have l5 : (settle gs).length = D.length + (settleL L').length := by
    rw [e3, List.length_append]
  have l6 : 0 < (settleL L').length := by
    rw [settle_first ne pos, List.length_cons]
    omega
  refine ⟨by omega, by rw [e1, List.length_append]; omega, by rw [e1, List.length_append]; omega, fun r m => ?_, (byAge_perm gs).mem_iff.mp (s.subset c.mem)⟩
  rw [e1] at m
  rcases List.mem_append.mp m with m | m
  · have m' : r ∈ settleL (byAge gs) := by
      show r ∈ settle gs
      rw [e3]
      exact List.mem_append_left _ m
    have := settleL_room m'
    rw [byAge_length] at this
    exact this
  · have := settleL_room m
    omega
theorem Mid.step {gs : List (Int × Int)} {rs : List (List Int)} {i : Nat} {x : Int × Int} (F : Fit gs) (M : Mid gs rs i x) :
    ∃ E : List Int, (enterR rs i x.1)[i]? = some E ∧ E.length ≤ gs.length ∧ (∀ a ∈ E, a ∈ gs.map (·.1)) ∧ E.Nodup ∧
      ((eldUp gs E = none ∧ enterR rs i x.1 = settle gs) ∨ ∃ y : Int × Int, y.1 ∈ E ∧ eldUp gs E = some y.1 ∧ Mid gs ((enterR rs i x.1).set i (E.erase y.1)) (i + 1) y) := by
  obtain ⟨D, L, L', rfl, rfl, c, s, e3⟩ := M
  have mem : ∀ g ∈ L', g ∈ gs := fun g m => (byAge_perm gs).mem_iff.mp (s.subset m)
  obtain ⟨E, pE, dE, out⟩ := come_step F c s
  have e1 : enterR (D ++ settleL L) D.length x.1 = D ++ E :: settleL (r0 0 L) := by
    rw [settle_parts fun g m => F.pos g (mem g (c.has m))]
    by_cases h : L = []
    · rw [if_pos h]
      subst h
      have eE : E = [x.1] := List.perm_singleton.mp (pE.trans (.refl _))
      rw [List.append_nil, enterR_new, eE]
      rfl
    · rw [if_neg h]
      have er : (D ++ roomOf L :: settleL (r0 0 L))[D.length]? = some (roomOf L) := by
        rw [List.getElem?_append_right (Nat.le_refl _), Nat.sub_self]
        rfl
      have eE : E = down (roomOf L ++ [x.1]) := down_is (pE.trans (List.perm_append_comm (l₁ := [x.1]) (l₂ := roomOf L))) (dE.imp fun h => by omega)
      rw [enterR_old x.1 er, List.set_append_right _ _ (Nat.le_refl _), Nat.sub_self, ← eE]
      rfl
  have inE : ∀ a ∈ E, a ∈ gs.map (·.1) := fun a m => by
    rcases List.mem_cons.mp (pE.mem_iff.mp m) with rfl | m
    · exact List.mem_map_of_mem (mem x c.mem)
    · obtain ⟨g, hg, rfl⟩ := List.mem_map.mp m
      exact List.mem_map_of_mem (mem g (c.has ((g0_sub L 0).subset hg)))
  have ndE : E.Nodup := dE.imp fun h => by omega
  refine ⟨E, ?_, ?_, inE, ndE, ?_⟩
  · rw [e1, List.getElem?_append_right (Nat.le_refl _), Nat.sub_self]
    rfl
  · have := List.Nodup.length_le_of_subset ndE inE
    rw [List.length_map] at this
    exact this
  · rcases out with ⟨h1, h2⟩ | ⟨y, hy, m, h1, h2, h3⟩
    · exact .inl ⟨h1, by rw [e1, e3, h2]⟩
    · refine .inr ⟨y, m, h1, D ++ [E.erase y.1], r0 0 L, r0 0 L', ?_, by rw [List.length_append]; rfl, h3, (r0_sub L' 0).trans s, ?_⟩
      · rw [e1, List.set_append_right _ _ (Nat.le_refl _), Nat.sub_self, List.append_assoc]
        rfl
      · rw [e3, h2, List.append_assoc]
        rfl
/-- who came into which room, and the rooms then -/
def comeF : Nat → List (Int × Int) → List (List Int) → Nat → Int → List (Int × Int) × List (List Int)
  | 0, _, rs, _, _ => ([], rs)
  | n + 1, gs, rs, i, x =>
    match eldUp gs ((enterR rs i x).getD i []) with
    | none => ([(x, (i : Int))], enterR rs i x)
    | some y => ((x, (i : Int)) :: (comeF n gs ((enterR rs i x).set i (((enterR rs i x).getD i []).erase y)) (i + 1) y).1, (comeF n gs ((enterR rs i x).set i (((enterR rs i x).getD i []).erase y)) (i + 1) y).2)
theorem comeF_end {n : Nat} {gs : List (Int × Int)} {rs : List (List Int)} {i : Nat} {x : Int} {E : List Int} (e : (enterR rs i x)[i]? = some E) (h : eldUp gs E = none) : comeF (n + 1) gs rs i x = ([(x, (i : Int))], enterR rs i x) := by
  unfold comeF
  rw [List.getD_eq_getElem?_getD, e]
  show (match eldUp gs E with | none => _ | some y => _) = _
  rw [h]
theorem comeF_on {n : Nat} {gs : List (Int × Int)} {rs : List (List Int)} {i : Nat} {x y : Int} {E : List Int} (e : (enterR rs i x)[i]? = some E) (h : eldUp gs E = some y) :
    comeF (n + 1) gs rs i x = ((x, (i : Int)) :: (comeF n gs ((enterR rs i x).set i (E.erase y)) (i + 1) y).1, (comeF n gs ((enterR rs i x).set i (E.erase y)) (i + 1) y).2) := by
  rw [comeF]
  rw [List.getD_eq_getElem?_getD, e]
  show (match eldUp gs E with | none => _ | some y => _) = _
  rw [h]
  rfl
/-- the pairs told when x comes to gs -/
def comeT (gs : List (Int × Int)) (x : Int × Int) : List (Int × Int) := (comeF (settle (gs ++ [x])).length (gs ++ [x]) (settle gs) 0 x.1).1
end El
namespace El
open PySem PySem.Spec PyProof.Rows L2
/-! ### what a method with two lines around its name is asked by -/
section
variable {X : Cx} {k : Nat} {C : Addr} {m q : Str} {st : Stmt} {ps : List Str} {sp : Sp}
/-- a method of ours, run below a builtin -/
theorem run_in {pins : List (Addr × Obj)} {σ : L2.St} {H : Hp} {s : Shared} {A : Around} {Q : VK} {us : List Value} {vs : List V} {f : Addr} {fd : FuncData} (F : FnOk X.prog X.w X.K X.mg X.base CX0 k f fd ps sp) (hr : Room k A) (hfr : A.frames = X.A.frames) (hb : Binds X.K fd ps [])
    (I : Inv X pins σ H s) (r : Vals vs us) (h : sp vs H Q E0) : wpAny (model X.prog X.w) A (call (.ref f) us) (EP X pins σ Q) X.xe s := by
  have e0 : Env0 X.prog X.w X.K X.mg X.base A X.stack s H := by
    have e := I.env0
    exact ⟨by rw [hfr]; exact e.frames, e.mod, e.bs, e.bsz, e.funs, e.frf, e.hok, e.bare⟩
  have hl : us.length = ps.length := by
    rw [← r.length]
    exact F.len _ _ _ _ h
  refine wpAny_call (codeAny_mono (F.run A X.stack s H ⟨us, []⟩ us vs Q E0 hr e0 (by
    have := hb s us I.kIn (by simpa using hl)
    simpa using this) r h) fun r s' hq => ?_)
  cases r with
  | error e => exact pass0 pins σ H s e s' I hq
  | ok fl =>
    cases fl with
    | ret u => exact I.after hq
    | next => exact False.elim hq
    | brk => exact False.elim hq
    | cont => exact False.elim hq
/-- len(o), o with an own __len__ -/
def rLenO (C : Addr) (sp : Sp) : List V → Hp → VK → Prop := fun xs H Q => ∃ (p dx : Addr) (fs : List (Str × V)), xs = [.ref p] ∧ H p = some (.ins C dx fs) ∧ sp [.ref p] H (fun v H' => ∃ n : Int, v = .int n ∧ 0 ≤ n ∧ n < 2 ^ 63 ∧ Q (.int n) H') E0
theorem call_lenO (D : Mf X.prog X.w X.K X.mg X.base k C "__len__" q ps st sp) (hr : Room (k + 1) X.A) : CallR X (.builtin "len") (rLenO C sp) := by
  obtain ⟨f, fd, _, M, b, F⟩ := D.ex
  intro pins s σ H xs us Q I r h
  obtain ⟨p, dx, fs, rfl, ep, h⟩ := h
  obtain rfl := Vals.ref1 r
  obtain ⟨mA, J, _⟩ := ins_get I.hok ep
  obtain ⟨od, J, _⟩ := J.look
  obtain ⟨mm, hF⟩ := I.fr
  refine PySem.W.len_K hF I.ok.mod.kin J M.at_ M.fn ?_
  have r1 : Vals [V.ref p] [Value.ref p] := .cons rfl .nil
  refine wpAny_mono (run_in F hr.in1 rfl b I r1 h) (fun u s' hq => ?_) fun _ _ x => x
  obtain ⟨v, H', I', rv, n, rfl, n0, n1, q⟩ := hq
  obtain ⟨t, rfl⟩ := rv
  exact ⟨⟨n0, n1⟩, .int n, H', I'.tok _, ⟨_, rfl⟩, q⟩
/-- a op b, both of a class of the text's own that says itself how -/
def rCmpO (C : Addr) (sp : Sp) : R2 := fun x y H Q => ∃ (a b dx dy : Addr) (fs gs : List (Str × V)), x = .ref a ∧ y = .ref b ∧ H a = some (.ins C dx fs) ∧ H b = some (.ins C dy gs) ∧ sp [.ref a, .ref b] H (fun v H' => ∃ c : Bool, v = .bl c ∧ Q (.bl c) H') E0
theorem cmpO {op : CmpOp} {pins : List (Addr × Obj)} {σ : L2.St} {H : Hp} {s : Shared} {Q : VK} {a b dx dy : Addr} {fs gs : List (Str × V)} (D : Mf X.prog X.w X.K X.mg X.base k C (cmpInfo op).2.1 q ps st sp) (hr : Room k X.A) (I : Inv X pins σ H s) (ha : H a = some (.ins C dx fs)) (hb : H b = some (.ins C dy gs))
    (h : sp [.ref a, .ref b] H (fun v H' => ∃ c : Bool, v = .bl c ∧ Q (.bl c) H') E0) : wpAny (model X.prog X.w) X.A (richCompare op (.ref a) (.ref b)) (EP X pins σ Q) X.xe s := by
  obtain ⟨f, fd, _, M, bi, F⟩ := D.ex
  obtain ⟨mA, J, _⟩ := ins_get I.hok ha
  obtain ⟨mB, J', _⟩ := ins_get I.hok hb
  obtain ⟨od, J, _⟩ := J.look
  obtain ⟨od', J', _⟩ := J'.look
  obtain ⟨mm, hF⟩ := I.fr
  refine PySem.W.cmp_K (op := op) (tb := .ref C) hr.units0 hF I.ok.mod.kin J J'.type (by simp [PySem.W.notFirst]) M.at_ M.fn ?_
  have r2 : Vals [V.ref a, V.ref b] [Value.ref a, Value.ref b] := .cons rfl (.cons rfl .nil)
  refine wpAny_mono (run_in F hr rfl bi I r2 h) (fun u s' hq => ?_) fun _ _ x => x
  obtain ⟨v, H', I', rv, c, rfl, q⟩ := hq
  cases rv
  exact ⟨.bl c, H', I', rfl, q⟩
theorem op_eqO (D : Mf X.prog X.w X.K X.mg X.base k C "__eq__" q ps st sp) (hr : Room k X.A) : OpR X (compareOp .Eq) (rCmpO C sp) := by
  intro pins s σ H x y v u Q I rx ry h
  obtain ⟨a, b, dx, dy, fs, gs, rfl, rfl, ha, hb, h⟩ := h
  cases rx
  cases ry
  exact cmpO (op := .Eq) D hr I ha hb h
theorem op_neO (D : Mf X.prog X.w X.K X.mg X.base k C "__ne__" q ps st sp) (hr : Room k X.A) : OpR X (compareOp .NotEq) (rCmpO C sp) := by
  intro pins s σ H x y v u Q I rx ry h
  obtain ⟨a, b, dx, dy, fs, gs, rfl, rfl, ha, hb, h⟩ := h
  cases rx
  cases ry
  exact cmpO (op := .NotEq) D hr I ha hb h
/-- what isinstance asks of an instance of the class -/
structure InsT (K : PySem.W.Frag) (C : Addr) : Prop where
  ha : PySem.W.findIn K (.ref C) "__class__" = some (some (.builtin "object.__class__"))
  hn : PySem.W.specialIn K (.builtin "object.__class__") "__get__" = some (some (.builtin "getset_descriptor.__get__"))
  ht : PySem.W.takesIn K (.builtin "object.__class__") = some true
  hm : PySem.W.mroIn K C (.type "object") = some true
theorem relRefO (a : Addr) : RelV (.ref a) (.ref a) := rfl
theorem kit_same {K : PySem.W.Frag} (C : Addr) : PySem.W.kitOne K (.ref C) (.ref C) = some true := if_pos (beq_self_eq_true _)
theorem fldK {e : Expr} {f : Str} {pos : Pos} {ta : TE} (K : PySem.W.Frag) (he : PE X e ta) (hb : attributeBase e f X.env (eval e X.env) = eval e X.env := by rfl) (eK : X.K = K := by rfl) : PE X (.Attribute e f pos) (tFld K ta f) := by
  subst eK
  exact pe_fld he hb
end
end El
namespace El
open PySem PySem.Spec PyProof.Rows L2
section
variable {P : Program} {w : World} {K : PySem.W.Frag} {mg : Str → Option Value} {base : Heap}
abbrev s_places : Stmt := topS 11
abbrev N_places : List Str := ["size", "patience"]
abbrev P_places : List Str := ["size", "patience"]
theorem sc_places : FnScope N_places P_places (defScope s_places) := ⟨rfl, rfl, rfl, by decide +kernel, rfl, by decide +kernel, by decide +kernel⟩
def sp_places : Sp := fun vs H Q _ => ∃ z p : Int, vs = [.int z, .int p] ∧ Q (.int (plc z p)) H
theorem ok_places (A : At K mg "places" P_places s_places) (B : Bi mg) : Df P w K mg base 1 "places" P_places s_places sp_places := by
  refine A.df fun f fd F => F.ok sc_places (fun vs H Q E h => ?_) (fun cdv AA outer s H vs Q E hr h => ?_)
  · obtain ⟨_, _, rfl, _⟩ := h
    rfl
  · obtain ⟨z, p, rfl, q⟩ := h
    have nd := sc_places.nd
    refine ⟨_, (pss_one (ps_ret (pe_callB (call_max2 rfl) (by rfl) B.max (by decide +kernel) (pa_cons pe_int (pa_cons (pe_op op_sub (pe_op op_add (pv 1) pe_int) (pv 0)) pa_nil))))), ?_⟩
    refine ⟨.int p, rfl, _, _, rfl, rfl, .int z, rfl, _, _, rfl, rfl, _, _, rfl, ?_⟩
    have e : (if p + 1 - z > 0 then p + 1 - z else 0) = plc z p := by
      unfold plc
      split <;> omega
    rw [e]
    exact q
end
end El
namespace El
open PySem PySem.Spec PyProof.Rows L2
section
variable {P : Program} {w : World} {K : PySem.W.Frag} {mg : Str → Option Value} {base : Heap}
abbrev s_grown_rooms : Stmt := topS 12
abbrev N_grown_rooms : List Str := ["size", "many", "patience", "taken", "full", "rest"]
abbrev P_grown_rooms : List Str := ["size", "many", "patience", "taken"]
theorem sc_grown_rooms : FnScope N_grown_rooms P_grown_rooms (defScope s_grown_rooms) := ⟨rfl, rfl, rfl, by decide +kernel, rfl, by decide +kernel, by decide +kernel⟩
theorem GsAt.of_paired {H : Hp} {B : Addr → Prop} {q : Addr} {ts : List Addr} {gs : List (Int × Int)} (e : H q = some (.lst (ts.map V.ref))) (hq : B q) (hb : ∀ t ∈ ts, B t) (p : Paired (fun (t : Addr) (g : Int × Int) => H t = some (.tup [.int g.1, .int g.2])) ts gs) : GsAt H B q ts gs := by
  refine ⟨e, hq, Paired.length p, fun i t g e1 e2 => ?_, hb⟩
  have key : ∀ {ts : List Addr} {gs : List (Int × Int)}, Paired (fun (t : Addr) (g : Int × Int) => H t = some (.tup [.int g.1, .int g.2])) ts gs → ∀ {i : Nat}, ts[i]? = some t → gs[i]? = some g → H t = some (.tup [.int g.1, .int g.2]) := by
    intro ts gs p
    induction p with
    | nil => exact fun e _ => by simp at e
    | cons r _ ih =>
      intro i e1 e2
      cases i with
      | zero =>
        obtain rfl := Option.some.inj e1
        obtain rfl := Option.some.inj e2
        exact r
      | succ i => exact ih e1 e2
  exact key p e1 e2
theorem short_div {x y : Int} (h0 : 0 < y) (h : y < 2 ^ 200) : Builtin.divisionGoesByPylong x y = false := by
  have hy : y.natAbs.log2 < 200 := (Nat.log2_lt (by omega)).mpr (by omega)
  unfold Builtin.divisionGoesByPylong
  rw [Bool.and_eq_false_iff]
  refine .inl (decide_eq_false ?_)
  have : (y == 0) = false := beq_eq_false_iff_ne.mpr (by omega)
  simp only [this]
  show ¬ (y.natAbs.log2 / 30 + 1 > 300)
  omega
def sp_grown_rooms : Sp := fun vs H Q _ => ∃ z c p k : Int, vs = [.int z, .int c, .int p, .int k] ∧ (k = 0 ∨ 0 < plc z p ∧ plc z p < 2 ^ 200) ∧ ∀ H' q us, Same H H' → GsAt H' (fun b => H b = none) q us (grownR z c p k) → Q (.ref q) H'
theorem ok_grown_rooms (A : At K mg "grown_rooms" P_grown_rooms s_grown_rooms) (B : Bi mg) (D_places : Df P w K mg base 1 "places" P_places s_places sp_places) : Df P w K mg base 2 "grown_rooms" P_grown_rooms s_grown_rooms sp_grown_rooms := by
  refine A.df fun f fd F => F.ok sc_grown_rooms (fun vs H Q E h => ?_) (fun cdv AA outer s H vs Q E hr h => ?_)
  · obtain ⟨_, _, _, _, rfl, _⟩ := h
    rfl
  · obtain ⟨z, c, p, k, rfl, hb, q⟩ := h
    have nd := sc_grown_rooms.nd
    refine ⟨_, (pss_cons (ps_if (pt_cmpR op_eq (pv 3) pe_int (nomark _)) (pss_one (ps_ret (pe_lst (pa_cons (pe_tup (pa_cons (pv 0) (pa_cons (pv 1) pa_nil))) pa_nil)))) pss_nil)
    (pss_cons (ps_asg (pe_callB call_divmodW (by rfl) B.divmod (by decide +kernel) (pa_cons (pv 3) (pa_cons (pe_df D_places (hr.mono (by decide)) (by rfl) (pa_cons (pv 0) (pa_cons (pv 2) pa_nil))) pa_nil))) (pg_tup (by rfl) (pgs_cons (pg_name (i := 4) nd rfl (.inl rfl)) (pgs_cons (pg_name (i := 5) nd rfl (.inl rfl)) pgs_nil))))
    (pss_cons (ps_if (pt_cmpR op_eq (pv 5) pe_int (nomark _)) (pss_one (ps_ret (pe_lst (pa_cons (pe_tup (pa_cons (pe_op op_add (pv 2) pe_int) (pa_cons (pv 4) pa_nil))) (pa_cons (pe_tup (pa_cons (pv 0) (pa_cons (pe_op op_sub (pv 1) (pv 4)) pa_nil))) pa_nil))))) pss_nil)
    (pss_one (ps_ret (pe_lst (pa_cons (pe_tup (pa_cons (pe_op op_add (pv 2) pe_int) (pa_cons (pv 4) pa_nil))) (pa_cons (pe_tup (pa_cons (pe_op op_add (pv 0) (pv 5)) (pa_cons pe_int pa_nil))) (pa_cons (pe_tup (pa_cons (pv 0) (pa_cons (pe_op op_sub (pe_op op_sub (pv 1) (pv 4)) pe_int) pa_nil))) pa_nil))))))))), ?_⟩
    unfold grownR at q
    refine ⟨.int k, rfl, rfl, _, rfl, ?_⟩
    by_cases k0 : k = 0
    · rw [if_pos k0] at q
      refine ifYes (by show decide (V.int k = V.int 0) = true; rw [k0]; rfl) ?_
      refine ⟨.int z, rfl, .int c, rfl, (by show 2 ≤ sizeLine; decide), fun t nt => ⟨(by show 1 ≤ sizeLine; decide), fun l nl => ?_⟩⟩
      have s1 := same_new (o := .tup [.int z, .int c]) nt
      have s2 := same_new (o := .lst [.ref t]) nl
      exact q _ l [t] (s1.trans s2) (GsAt.of_paired upd_same (s1.free nl) (fun b m => by rw [List.mem_singleton.mp m]; exact nt) (.cons (s2 _ _ upd_same) .nil))
    · rw [if_neg k0] at q
      refine ifNo (by show decide (V.int k = V.int 0) = false; simp [k0]) ?_
      obtain ⟨b0, b1⟩ := hb.resolve_left k0
      refine ⟨.int k, rfl, .int z, rfl, .int p, rfl, z, p, rfl, _, _, rfl, ⟨b0, short_div b0 b1⟩, fun D nD => ?_⟩
      have sD := same_new (o := .tup [.int (k / plc z p), .int (k % plc z p)]) nD
      refine ⟨D, _, rfl, SqT.of upd_same, rfl, .int (k / plc z p), _, rfl, .int (k % plc z p), _, rfl, rfl, ?_⟩
      refine ⟨.int (k % plc z p), rfl, rfl, _, rfl, ?_⟩
      by_cases k1 : k % plc z p = 0
      · rw [if_pos k1] at q
        refine ifYes (by show decide (V.int (k % plc z p) = V.int 0) = true; rw [k1]; rfl) ?_
        refine ⟨.int p, rfl, _, _, rfl, rfl, .int (k / plc z p), rfl, (by show 2 ≤ sizeLine; decide), fun t1 n1 => ?_⟩
        refine ⟨.int z, rfl, .int c, rfl, .int (k / plc z p), rfl, _, _, rfl, rfl, (by show 2 ≤ sizeLine; decide), fun t2 n2 => ⟨(by show 2 ≤ sizeLine; decide), fun l nl => ?_⟩⟩
        have s1 := same_new (o := .tup [.int (p + 1), .int (k / plc z p)]) n1
        have s2 := same_new (o := .tup [.int z, .int (c - k / plc z p)]) n2
        have s3 := same_new (o := .lst [.ref t1, .ref t2]) nl
        exact q _ l [t1, t2] (sD.trans (s1.trans (s2.trans s3))) (GsAt.of_paired upd_same (sD.free (s1.free (s2.free nl))) (fun b m => by
          rcases List.mem_cons.mp m with rfl | m
          · exact sD.free n1
          · rw [List.mem_singleton.mp m]
            exact sD.free (s1.free n2)) (.cons (s3 _ _ (s2 _ _ upd_same)) (.cons (s3 _ _ upd_same) .nil)))
      · rw [if_neg k1] at q
        refine ifNo (by show decide (V.int (k % plc z p) = V.int 0) = false; simp [k1]) ?_
        refine ⟨.int p, rfl, _, _, rfl, rfl, .int (k / plc z p), rfl, (by show 2 ≤ sizeLine; decide), fun t1 n1 => ?_⟩
        refine ⟨.int z, rfl, .int (k % plc z p), rfl, _, _, rfl, rfl, (by show 2 ≤ sizeLine; decide), fun t2 n2 => ?_⟩
        refine ⟨.int z, rfl, .int c, rfl, .int (k / plc z p), rfl, _, _, rfl, rfl, _, _, rfl, rfl, (by show 2 ≤ sizeLine; decide), fun t3 n3 => ⟨(by show 3 ≤ sizeLine; decide), fun l nl => ?_⟩⟩
        have s1 := same_new (o := .tup [.int (p + 1), .int (k / plc z p)]) n1
        have s2 := same_new (o := .tup [.int (z + k % plc z p), .int 1]) n2
        have s3 := same_new (o := .tup [.int z, .int (c - k / plc z p - 1)]) n3
        have s4 := same_new (o := .lst [.ref t1, .ref t2, .ref t3]) nl
        exact q _ l [t1, t2, t3] (sD.trans (s1.trans (s2.trans (s3.trans s4)))) (GsAt.of_paired upd_same (sD.free (s1.free (s2.free (s3.free nl)))) (fun b m => by
          rcases List.mem_cons.mp m with rfl | m
          · exact sD.free n1
          rcases List.mem_cons.mp m with rfl | m
          · exact sD.free (s1.free n2)
          · rw [List.mem_singleton.mp m]
            exact sD.free (s1.free (s2.free n3))) (.cons (s4 _ _ (s3 _ _ (s2 _ _ upd_same))) (.cons (s4 _ _ (s3 _ _ upd_same)) (.cons (s4 _ _ upd_same) .nil))))
end
end El
namespace El
open PySem PySem.Spec PyProof.Rows L2
section
variable {P : Program} {w : World} {K : PySem.W.Frag} {mg : Str → Option Value} {base : Heap}
abbrev s_after_crowd : Stmt := topS 10
abbrev N_after_crowd : List Str := ["filled", "count", "patience", "many_of", "left", "size", "many", "taken", "grown", "alike"]
abbrev P_after_crowd : List Str := ["filled", "count", "patience"]
theorem sc_after_crowd : FnScope N_after_crowd P_after_crowd (defScope s_after_crowd) := ⟨rfl, rfl, rfl, by decide +kernel, rfl, by decide +kernel, by decide +kernel⟩
theorem nodup_len : ∀ {l m : List Int}, l.Nodup → (∀ x ∈ l, x ∈ m) → l.length ≤ m.length
  | [], _, _, _ => Nat.zero_le _
  | x :: l, m, nd, h => by
    have ⟨n1, n2⟩ := List.nodup_cons.mp nd
    have mx := h x List.mem_cons_self
    have k := nodup_len (l := l) (m := m.erase x) n2 fun y my => (List.mem_erase_of_ne (show y ≠ x from fun e => n1 (by rw [← e]; exact my))).mpr (h y (List.mem_cons_of_mem _ my))
    rw [List.length_erase_of_mem mx] at k
    have := List.length_pos_of_mem mx
    show l.length + 1 ≤ m.length
    omega
def sp_after_crowd : Sp := fun vs H Q _ => ∃ (B : Addr → Prop) (a : Addr) (ts : List Addr) (R : List (Int × Int)) (L : List Int) (n p : Int), vs = [.ref a, .int n, .int p] ∧ GsAt H B a ts R ∧ Rle R L ∧ 0 ≤ n ∧ 0 ≤ p ∧ n < 2 ^ 190 ∧ p < 2 ^ 190 ∧ (∀ r ∈ R, r.2 < 2 ^ 190) ∧ R.length ≤ 1000 ∧
  ∀ (H' : Hp) (q : Addr) (us : List Addr) (R' : List (Int × Int)), Same H H' → GsAt H' (fun b => H b = none) q us R' → Rle R' (sitN p n.toNat L) → R'.length ≤ R.length + 3 → Q (.ref q) H'
theorem ok_after_crowd (A : At K mg "after_crowd" P_after_crowd s_after_crowd) (B : Bi mg) (D_places : Df P w K mg base 1 "places" P_places s_places sp_places) (D_grown_rooms : Df P w K mg base 2 "grown_rooms" P_grown_rooms s_grown_rooms sp_grown_rooms) : Df P w K mg base 3 "after_crowd" P_after_crowd s_after_crowd sp_after_crowd := by
  refine A.df fun f fd F => F.ok sc_after_crowd (fun vs H Q E h => ?_) (fun cdv AA outer s H vs Q E hr h => ?_)
  · obtain ⟨_, _, _, _, _, _, _, rfl, _⟩ := h
    rfl
  · obtain ⟨BB, a, ts, R, L, n, p, rfl, hG, hR, hn, hp, ln, lp, lR, hl, q⟩ := h
    have nd := sc_after_crowd.nd
    refine ⟨_, (pss_cons (ps_set (i := 3) nd rfl (.inl rfl) pe_dnewK)
    (pss_cons (ps_set (i := 4) nd rfl (.inl rfl) (pv 1))
    (pss_cons (ps_for PassesOwn.never rfl (pi_list (pe_lst (StX.pa_star (pv 0) (pa_cons (pe_tup (pa_cons pe_int (pa_cons (pv 1) pa_nil))) pa_nil)))) (pg_tup (by rfl) (pgs_cons (pg_name (i := 5) nd rfl (.inl rfl)) (pgs_cons (pg_name (i := 6) nd rfl (.inl rfl)) pgs_nil))) (pss_cons (ps_set (i := 7) nd rfl (.inl rfl) (pe_callB (call_min2 rfl) (by rfl) B.min (by decide +kernel) (pa_cons (pv 4) (pa_cons (pe_op op_mulW (pv 6) (pe_df D_places (hr.mono (by decide)) (by rfl) (pa_cons (pv 5) (pa_cons (pv 2) pa_nil)))) pa_nil)))) (pss_cons (ps_aug (i := 4) nd rfl (.inl rfl) (pv 7) ip_sub) (pss_one (ps_for PassesOwn.never rfl (pi_list (pe_df D_grown_rooms (hr.mono (by decide)) (by rfl) (pa_cons (pv 5) (pa_cons (pv 6) (pa_cons (pv 2) (pa_cons (pv 7) pa_nil)))))) (pg_tup (by rfl) (pgs_cons (pg_name (i := 8) nd rfl (.inl rfl)) (pgs_cons (pg_name (i := 9) nd rfl (.inl rfl)) pgs_nil))) (pss_one (ps_dput (hu_of hr) (pv 3) (pv 8) (pe_op op_add (pe_dget2 (hu_of hr) (pv 3) (pv 8) pe_int ⟨rfl, rfl, rfl, rfl⟩) (pv 9)) rfl)))))))
    (pss_one (ps_ret (pe_callBK (cr_sortedPK (b := true) rfl) (by rfl) B.sorted (by decide +kernel) (pa_cons (pe_lock (pe_lc (own := [("size", 5), ("many", 6)]) rfl nd (pi_items (pv 3)) (blkOk_by (N := N_after_crowd) (sc := defScope s_after_crowd) (by decide +kernel)) (fun _ _ _ _ _ => (pgTupK K 2 (by rfl) (pgs_cons (pg_name (i := 5) nd rfl (.inl rfl)) (pgs_cons (pg_name (i := 6) nd rfl (.inl rfl)) pgs_nil)))) (fun _ _ _ _ _ => (pts_one (PW.pt (pw_and (pt_cmpR op_gt (pv 5) pe_int (nomark _)) (pw_and1 (pt_cmpR op_gt (pv 6) pe_int (nomark _))))))) (fun _ _ _ _ _ => (pe_tup (pa_cons (pv 5) (pa_cons (pv 6) pa_nil)))))) pa_nil) (pk_cons pe_bl pk_nil))))))), ?_⟩
    -- many_of = {}
    refine fun d nd => ?_
    have s1 := same_new (o := .dK []) nd
    have G1 := hG.same s1
    refine ⟨.int n, rfl, ?_⟩
    dsimp only [gName]
    -- for size, many in [*filled, (0, count)]
    refine seq_to (fun σ H9 => ∃ y5 y6 y7 y8 y9 left gs E, σ = [some (.ref a), some (.int n), some (.int p), some (.ref d), some (.int left), y5, y6, y7, y8, y9] ∧ Kp (fun b => b ≠ d) H H9 ∧ H9 d = some (.dK (pks gs)) ∧ (∀ b, H9 b = none → H b = none) ∧ Hist gs E ∧ pour p n (ex (R ++ [(0, n)])) = ex E ∧ gs.length ≤ R.length + 3) (fun X hX => ?_) (fun σ H9 hE => ?_)
    · refine ⟨.ref a, rfl, a, ts.map V.ref, rfl, .inr G1.seq, .int n, rfl, (by show 2 ≤ sizeLine; decide), fun tt ntt => ⟨?_, fun l nl => ⟨l, rfl, ⟨_, SqL.of upd_same⟩, ?_⟩⟩⟩
      · rw [List.length_append, List.length_map, hG.len]
        show R.length + 1 ≤ sizeLine
        exact Nat.le_of_lt (ils (by omega))
      have s2 := same_new (o := .tup [.int 0, .int n]) ntt
      have s3 := same_new (o := .lst (ts.map V.ref ++ [.ref tt])) nl
      have GL := ((G1.same s2).same s3).cat (q := tt) (g := (0, n)) (l := l) (s3 _ _ upd_same) upd_same
      have k0 : Kp (fun b => b ≠ d) H (upd (upd (upd H d (.dK [])) tt (.tup [.int 0, .int n])) l (.lst (ts.map V.ref ++ [.ref tt]))) := .of (s1.trans (s2.trans s3))
      have e0 : (upd (upd (upd H d (.dK [])) tt (.tup [.int 0, .int n])) l (.lst (ts.map V.ref ++ [.ref tt]))) d = some (.dK (pks [])) := s3 _ _ (s2 _ _ upd_same)
      have v0 : ∀ b, (upd (upd (upd H d (.dK [])) tt (.tup [.int 0, .int n])) l (.lst (ts.map V.ref ++ [.ref tt]))) b = none → H b = none := fun b e => s1.free (s2.free (s3.free e))
      have dl : ∀ b, (b = l ∨ b ∈ ts ++ [tt]) → b ≠ d := fun b m z => by
        rcases m with m | m
        · rw [← m, z] at nl
          rw [s2 _ _ upd_same] at nl
          cases nl
        · obtain ⟨i, ei⟩ := List.mem_iff_getElem?.mp m
          have hl' := at_lt ei
          rw [GL.len] at hl'
          obtain ⟨g, eg⟩ := at_some hl'
          have := GL.at' i b g ei eg
          rw [z, e0] at this
          cases this
      have GLd := GL.reB (B' := fun b => b ≠ d) fun b m _ => dl b m
      revert GLd k0 e0 v0
      generalize upd (upd (upd H d (.dK [])) tt (.tup [.int 0, .int n])) l (.lst (ts.map V.ref ++ [.ref tt])) = HL
      clear GL dl
      intro k0 e0 v0 GLd
      have hRR : ∀ r ∈ R ++ [(0, n)], 0 ≤ r.1 ∧ 0 ≤ r.2 ∧ r.2 < 2 ^ 190 := fun r m => by
        rcases List.mem_append.mp m with m | m
        · have := hR.p r m
          exact ⟨by omega, by omega, lR r m⟩
        · rw [List.mem_singleton.mp m]
          exact ⟨Int.le_refl _, hn, ln⟩
      generalize hRRe : R ++ [(0, n)] = RR at GLd hRR hX ⊢
      have lRR : RR.length = R.length + 1 := by rw [← hRRe, List.length_append]; rfl
      refine for_it (walk_list (xs := ts.map V.ref ++ [.ref tt])) (fun i σ H2 => ∃ y5 y6 y7 y8 y9 left gs E W, σ = [some (.ref a), some (.int n), some (.int p), some (.ref d), some (.int left), y5, y6, y7, y8, y9] ∧ Kp (fun b => b ≠ d) HL H2 ∧ H2 d = some (.dK (pks gs)) ∧ (∀ b, H2 b = none → HL b = none) ∧ Hist gs E ∧
        pour p n (ex RR) = ex E ++ pour p left (ex (RR.drop i)) ∧ 0 ≤ left ∧ left ≤ n ∧ (∀ y ∈ gs.map (·.1), y ∈ (RR.take i).map (·.1) ++ [p + 1] ++ W) ∧ W.length ≤ 1 ∧ (W ≠ [] → left = 0))
        ⟨_, _, _, _, _, n, [], [], [], rfl, .refl, e0, fun _ e => e, Hist.nil, rfl, hn, Int.le_refl _, (fun y m => (List.not_mem_nil m).elim), Nat.zero_le _, fun h => absurd rfl h⟩ (fun i σ H2 _ hW => ?_) (fun i v σ H2 H3 hi hW hY => ?_) (fun σ H2 hW => ?_)
      · obtain ⟨_, _, _, _, _, _, _, _, _, _, k, _⟩ := hW
        have := (GLd.keep k).seq (K := K)
        rw [List.map_append] at this
        exact this
      · obtain ⟨y5, y6, y7, y8, y9, left, gs, E, W, rfl, k2, e2, v2, hH, hP, h0, h1, hK, hW1, hW2⟩ := hW
        obtain ⟨rfl, hx⟩ := hY
        obtain ⟨t, ⟨z, c⟩, rfl, eg, et⟩ := (GLd.keep k2).get (by rw [List.map_append]; exact hx)
        obtain ⟨z0, c0, c1⟩ := hRR _ (List.mem_of_getElem? eg)
        refine ⟨t, _, rfl, SqT.of et, rfl, .int z, _, rfl, .int c, _, rfl, rfl, ?_⟩
        have pl0 := plc_nn z p
        have pl1 : plc z p < 2 ^ 191 := by
          unfold plc
          omega
        refine ⟨.int left, rfl, .int c, rfl, .int z, rfl, .int p, rfl, z, p, rfl, _, _, rfl, rfl, ?_, _, _, rfl, ?_⟩
        · have a1 : c.natAbs.log2 ≤ 200 := by
            by_cases hc : c = 0
            · rw [hc]
              decide
            · exact Nat.le_of_lt ((Nat.log2_lt (by omega)).mpr (by omega))
          have a2 : (plc z p).natAbs.log2 ≤ 200 := by
            by_cases hc : plc z p = 0
            · rw [hc]
              decide
            · exact Nat.le_of_lt ((Nat.log2_lt (by omega)).mpr (by omega))
          show c.natAbs.log2 + (plc z p).natAbs.log2 < 1000000
          omega
        have hk : (if c * plc z p < left then c * plc z p else left) = min left (c * plc z p) := by split <;> omega
        rw [hk]
        have hcb : 0 ≤ c * plc z p := Int.mul_nonneg c0 pl0
        have hrun : pour p left (ex (RR.drop i)) = ex (grownR z c p (min left (c * plc z p))) ++ pour p (left - min left (c * plc z p)) (ex (RR.drop (i + 1))) := by
          obtain ⟨hi', ei'⟩ := List.getElem?_eq_some_iff.mp eg
          rw [List.drop_eq_getElem_cons hi', ei', ex_cons]
          have := pour_run (p := p) (z := z) (c := c.toNat) (n := left) (X := ex (RR.drop (i + 1))) h0
          rw [show ((c.toNat : Nat) : Int) = c by omega] at this
          exact this
        have hkz : min left (c * plc z p) = 0 ∨ 0 < plc z p := by
          by_cases hz : plc z p = 0
          · left
            rw [hz, Int.mul_zero]
            omega
          · right
            omega
        have hw : min left (c * plc z p) % plc z p ≠ 0 → left - min left (c * plc z p) = 0 := fun h => by
          by_cases hlt : c * plc z p < left
          · rw [show min left (c * plc z p) = c * plc z p by omega, Int.mul_emod_left] at h
            exact absurd rfl h
          · omega
        have hk1 : 0 ≤ min left (c * plc z p) ∧ min left (c * plc z p) ≤ left := by omega
        have hkc : min left (c * plc z p) ≤ c * plc z p := by omega
        clear hk
        generalize min left (c * plc z p) = k at hrun hkz hw hk1 hkc ⊢
        dsimp only [gName]
        -- left -= taken
        refine ⟨.int left, rfl, .int k, rfl, left, k, rfl, rfl, ?_⟩
        -- for grown, alike in grown_rooms(..)
        refine ⟨.int z, rfl, .int c, rfl, .int p, rfl, .int k, rfl, z, c, p, k, rfl, hkz.imp id fun h => ⟨h, by omega⟩, fun H4 l4 us4 s4 G4 => ⟨l4, rfl, ⟨_, G4.seq⟩, ?_⟩⟩
        have e4 := s4 _ _ e2
        have d4 : H3 d ≠ none := fun e => by rw [e2] at e; cases e
        have G4d := G4.weaken (B' := fun b => b ≠ d) fun b e z => d4 (z ▸ e)
        have hpc : ∀ r ∈ grownR z c p k, 0 ≤ r.2 := by
          intro r m
          have hq : 0 ≤ k / plc z p := Int.ediv_nonneg hk1.1 pl0
          unfold grownR at m
          by_cases k0 : k = 0
          · rw [if_pos k0, List.mem_singleton] at m
            rw [m]
            exact c0
          rw [if_neg k0] at m
          have b0 := hkz.resolve_left k0
          have h5 : k / plc z p ≤ c := by
            have := Int.ediv_le_ediv b0 hkc
            rw [Int.mul_ediv_cancel _ (by omega)] at this
            exact this
          by_cases k1 : k % plc z p = 0
          · rw [if_pos k1] at m
            rcases List.mem_cons.mp m with m | m
            · rw [m]
              exact hq
            · rw [List.mem_singleton.mp m]
              show 0 ≤ c - k / plc z p
              omega
          · rw [if_neg k1] at m
            have h6 : k / plc z p < c := by
              refine Int.ediv_lt_of_lt_mul b0 ?_
              rcases Int.lt_or_lt_of_ne (show k ≠ c * plc z p from fun e => k1 (by rw [e, Int.mul_emod_left])) with h | h
              · exact h
              · omega
            rcases List.mem_cons.mp m with m | m
            · rw [m]
              exact hq
            rcases List.mem_cons.mp m with m | m
            · rw [m]
              show (0 : Int) ≤ 1
              decide
            · rw [List.mem_singleton.mp m]
              show 0 ≤ c - k / plc z p - 1
              omega
        have hkeys : ∃ W', W'.length ≤ 1 ∧ (W' ≠ [] → left - k = 0) ∧ (∀ y ∈ (RR.take i).map (·.1) ++ [p + 1] ++ W, y ∈ (RR.take (i + 1)).map (·.1) ++ [p + 1] ++ W') ∧ ∀ y ∈ (grownR z c p k).map (·.1), y ∈ (RR.take (i + 1)).map (·.1) ++ [p + 1] ++ W' := by
          have ht : (RR.take (i + 1)).map (·.1) = (RR.take i).map (·.1) ++ [z] := by rw [take_snoc eg, List.map_append]; rfl
          have old_ : ∀ {W2 : List Int}, (∀ y ∈ W, y ∈ W2) → ∀ y ∈ (RR.take i).map (·.1) ++ [p + 1] ++ W, y ∈ (RR.take (i + 1)).map (·.1) ++ [p + 1] ++ W2 := fun hs y m => by
            rw [ht]
            simp only [List.mem_append] at m ⊢
            rcases m with (m | m) | m
            · exact .inl (.inl (.inl m))
            · exact .inl (.inr m)
            · exact .inr (hs y m)
          have zin : ∀ W2 : List Int, z ∈ (RR.take (i + 1)).map (·.1) ++ [p + 1] ++ W2 := fun W2 => by
            rw [ht]
            simp only [List.mem_append, List.mem_singleton]
            exact .inl (.inl (.inr trivial))
          have pin : ∀ W2 : List Int, p + 1 ∈ (RR.take (i + 1)).map (·.1) ++ [p + 1] ++ W2 := fun W2 => by
            simp only [List.mem_append, List.mem_singleton]
            exact .inl (.inr trivial)
          unfold grownR
          by_cases k0 : k = 0
          · rw [if_pos k0]
            refine ⟨W, hW1, fun h => by rw [hW2 h, k0]; rfl, old_ fun y m => m, fun y m => ?_⟩
            rw [List.mem_singleton.mp m]
            exact zin W
          rw [if_neg k0]
          have wn : W = [] := by
            cases W with
            | nil => rfl
            | cons x W =>
              have := hW2 (List.cons_ne_nil x W)
              omega
          by_cases k1 : k % plc z p = 0
          · rw [if_pos k1]
            refine ⟨W, hW1, fun h => absurd wn h, old_ fun y m => m, fun y m => ?_⟩
            rcases List.mem_cons.mp m with m | m
            · rw [m]
              exact pin W
            · rw [List.mem_singleton.mp m]
              exact zin W
          · rw [if_neg k1]
            refine ⟨[z + k % plc z p], Nat.le_refl _, fun _ => hw k1, old_ fun y m => by rw [wn] at m; exact (List.not_mem_nil m).elim, fun y m => ?_⟩
            rcases List.mem_cons.mp m with m | m
            · rw [m]
              exact pin _
            rcases List.mem_cons.mp m with m | m
            · rw [m]
              exact List.mem_append_right _ (List.mem_singleton.mpr rfl)
            · rw [List.mem_singleton.mp m]
              exact zin _
        obtain ⟨W', w1, w2, w3, w4⟩ := hkeys
        have lpc : (grownR z c p k).length ≤ 3 := by
          unfold grownR
          split
          · exact Nat.le_add_left 1 2
          · split
            · exact Nat.le_add_left 2 1
            · exact Nat.le_refl 3
        generalize hpe : grownR z c p k = pcs at G4 G4d hpc w4 hrun lpc
        refine for_it (walk_list (xs := us4.map V.ref)) (fun j σ H5 => ∃ y8 y9 gs5, σ = [some (.ref a), some (.int n), some (.int p), some (.ref d), some (.int (left - k)), some (.int z), some (.int c), some (.int k), y8, y9] ∧ Kp (fun b => b ≠ d) H4 H5 ∧ H5 d = some (.dK (pks gs5)) ∧ (∀ b, H5 b = none → H4 b = none) ∧ Hist gs5 (E ++ pcs.take j) ∧ (∀ y ∈ gs5.map (·.1), y ∈ (RR.take (i + 1)).map (·.1) ++ [p + 1] ++ W'))
          ⟨_, _, gs, rfl, .refl, e4, fun _ e => e, by rw [List.take_zero, List.append_nil]; exact hH, fun y m => w3 y (hK y m)⟩ (fun j σ H5 _ hV => ?_) (fun j v σ H5 H6 hj hV hY => ?_) (fun σ H5 hV => ?_)
        · obtain ⟨_, _, _, _, k5, _⟩ := hV
          exact (G4d.keep k5).seq
        · obtain ⟨y8, y9, gs5, rfl, k5, e5, v5, hH5, hK5⟩ := hV
          obtain ⟨rfl, hx5⟩ := hY
          obtain ⟨t5, ⟨y, c'⟩, rfl, eg5, et5⟩ := (G4d.keep k5).get hx5
          have l5 : gs5.length ≤ 1010 := by
            have := nodup_len hH5.nd hK5
            rw [List.length_map, List.length_append, List.length_append, List.length_map, List.length_take] at this
            have h1 : ([p + 1] : List Int).length = 1 := rfl
            omega
          refine ⟨t5, _, rfl, SqT.of et5, rfl, .int y, _, rfl, .int c', _, rfl, rfl, ?_⟩
          have hv := val_pof hH5.nd y
          refine ⟨.ref d, rfl, d, rfl, .inl ⟨_, .inl e5⟩, .int y, rfl, _, DGet.k (k := Sum.inl y) e5, .int c', rfl, _, _, hv, rfl, .ref d, rfl, .int y, rfl, d, _, rfl, DPut.k (k := Sum.inl y) e5 (ils (by rw [pks_len]; omega)), ?_⟩
          rw [putG_pks]
          have hput := hH5.put (y := y) (c := c') (hpc _ (List.mem_of_getElem? eg5))
          rw [List.append_assoc, ← take_snoc eg5] at hput
          refine ⟨_, _, _, rfl, k5.mut (fun z => z rfl), upd_same, fun b e => ?_, hput, fun x mx => ?_⟩
          · by_cases hb : b = d
            · rw [hb, upd_same] at e
              cases e
            · rw [upd_ne hb] at e
              exact v5 b e
          · rw [putG_keys] at mx
            by_cases hm : y ∈ gs5.map (·.1)
            · rw [if_pos hm] at mx
              exact hK5 x mx
            · rw [if_neg hm] at mx
              rcases List.mem_append.mp mx with mx | mx
              · exact hK5 x mx
              · rw [List.mem_singleton.mp mx]
                exact w4 y (List.mem_map_of_mem (f := Prod.fst) (List.mem_of_getElem? eg5))
        · obtain ⟨y8, y9, gs5, rfl, k5, e5, v5, hH5, hK5⟩ := hV
          rw [List.length_map, G4.len, List.take_length] at hH5
          refine ⟨_, _, _, _, _, left - k, gs5, E ++ pcs, W', rfl, (k2.trans (.of s4)).trans k5, e5, fun b e => v2 b (s4.free (v5 b e)), hH5, ?_, by omega, by omega, hK5, w1, w2⟩
          rw [hP, hrun, ex_append, List.append_assoc]
      · obtain ⟨y5, y6, y7, y8, y9, left, gs, E, W, rfl, k2, e2, v2, hH, hP, h0, h1, hK, hW1, hW2⟩ := hW
        refine hX _ _ ⟨_, _, _, _, _, left, gs, E, rfl, k0.trans k2, e2, fun b e => v0 b (v2 b e), hH, ?_, ?_⟩
        · have lw : (ts.map V.ref ++ [V.ref tt]).length = RR.length := by
            rw [List.length_append, List.length_map, hG.len, lRR]
            rfl
          rw [hP, lw, List.drop_length]
          show ex E ++ [] = ex E
          exact List.append_nil _
        · have := nodup_len hH.nd hK
          rw [List.length_map, List.length_append, List.length_append, List.length_map, List.length_take] at this
          have h1 : ([p + 1] : List Int).length = 1 := rfl
          omega
    · obtain ⟨y5, y6, y7, y8, y9, left, gs, E, rfl, k9, e9, v9, hH, hP, lgs⟩ := hE
      -- [(size, many) for size, many in many_of.items() if size > 0 and many > 0]
      refine ⟨d, .dK (pks gs), e9, trivial, fun od => ⟨.ref d, rfl, d, od, pks gs, rfl, upd_same, fun D nD => ?_⟩⟩
      have dD : D ≠ d := fun z => by rw [z, upd_same] at nD; cases nD
      refine lc_it (walk_items (kvs := pks gs)) (fun k Hb => Kp (fun b => b ≠ D) (upd H9 d (.frz od (.dK (pks gs)))) Hb ∧ (∀ b, Hb b = none → upd H9 d (.frz od (.dK (pks gs))) b = none) ∧ ∃ us, GsAt Hb (fun b => upd H9 d (.frz od (.dK (pks gs))) b = none) D us ((gs.take k).filter live)) ⟨Kp.mut Kp.refl fun z => z rfl, fun b e => ?_, [], upd_same, nD, rfl, fun i t g e _ => by simp at e, fun t m => (List.not_mem_nil m).elim⟩ (fun k Hb _ hW => ?_) (fun k v Hb Hc hk hW hY => ?_) (fun Hb hW => ?_)
      · by_cases hb : b = D
        · rw [hb, upd_same] at e
          cases e
        · rw [upd_ne hb] at e
          exact e
      · exact hW.1 _ _ dD.symm upd_same
      · obtain ⟨kb, vb, us, Gb⟩ := hW
        obtain ⟨U, x1, x2, rfl, nU, rfl, f1, f2⟩ := hY
        rw [pks_len] at hk
        obtain ⟨g, eg⟩ := at_some hk
        have ep : (pks gs)[k]? = some ((Sum.inl g.1 : L2.Key), V.int g.2) := by
          rw [show pks gs = gs.map fun g => ((Sum.inl g.1 : L2.Key), V.int g.2) from rfl, List.getElem?_map, eg]
          rfl
        dsimp only at f1 f2
        rw [ep] at f1 f2
        obtain rfl : V.int g.1 = x1 := Option.some.inj f1
        obtain rfl : V.int g.2 = x2 := Option.some.inj f2
        have sU := same_new (o := .tup [V.int g.1, .int g.2]) nU
        have kU := kb.trans (.of sU)
        have vU : ∀ b, (upd Hb U (.tup [V.int g.1, .int g.2])) b = none → upd H9 d (.frz od (.dK (pks gs))) b = none := fun b e => vb b (sU.free e)
        have GU := Gb.same sU
        refine ⟨U, [.int g.1, .int g.2], rfl, SqT.of upd_same, rfl, .int g.1, [.int g.2], rfl, .int g.2, [], rfl, rfl, rfl, ?_⟩
        clear Gb kb vb sU
        revert kU vU GU
        generalize upd Hb U (.tup [V.int g.1, .int g.2]) = Hc
        intro kU vU GU
        have no : ¬ (0 < g.1 ∧ 0 < g.2) → (gs.take (k + 1)).filter live = (gs.take k).filter live := fun h => by
          rw [take_snoc eg, List.filter_append, List.filter_cons_of_neg (by
            unfold live
            rw [Bool.and_eq_true, decide_eq_true_iff, decide_eq_true_iff]
            exact h), List.filter_nil, List.append_nil]
        refine ⟨.int g.1, rfl, _, _, rfl, rfl, _, rfl, ?_⟩
        by_cases h1 : 0 < g.1
        · refine ifYes (decide_eq_true h1) ⟨.int g.2, rfl, _, _, rfl, rfl, _, rfl, ?_⟩
          by_cases h2 : 0 < g.2
          · refine ifYes (decide_eq_true h2) ⟨.int g.1, rfl, .int g.2, rfl, (by show 2 ≤ sizeLine; decide), fun T nT => ?_⟩
            have sT := same_new (o := .tup [V.int g.1, .int g.2]) nT
            have GT := GU.same sT
            refine ⟨_, GT.top, ils ?_, (kU.trans (.of sT)).mut fun z => z rfl, fun b e => ?_, us ++ [T], ?_⟩
            · have := List.length_filter_le live (gs.take k)
              rw [List.length_take] at this
              rw [List.length_map, GT.len]
              omega
            · by_cases hb : b = D
              · rw [hb, upd_same] at e
                cases e
              · rw [upd_ne hb] at e
                exact vU b (sT.free e)
            · have hD : D ∉ us := fun m => by
                obtain ⟨i, ei⟩ := List.mem_iff_getElem?.mp m
                have hl' := at_lt ei
                rw [GT.len] at hl'
                obtain ⟨x, ex'⟩ := at_some hl'
                have := GT.at' i D x ei ex'
                rw [GT.top] at this
                cases this
              rw [take_snoc eg, List.filter_append, List.filter_cons_of_pos (by
                unfold live
                rw [decide_eq_true h1, decide_eq_true h2]
                rfl), List.filter_nil]
              exact GT.push hD (q := T) (g := g) upd_same (vU T nT)
          · refine ifNo (decide_eq_false h2) ?_
            rw [no fun h => h2 h.2]
            exact ⟨kU, vU, us, GU⟩
        · refine ifNo (decide_eq_false h1) ?_
          rw [no fun h => h1 h.1]
          exact ⟨kU, vU, us, GU⟩
      · obtain ⟨kb, vb, us, Gb⟩ := hW
        rw [pks_len, List.take_length] at Gb
        have ed : Hb d = some (.frz od (.dK (pks gs))) := kb _ _ dD.symm upd_same
        refine ⟨ed, ?_⟩
        have nd9 : ∀ b, upd H9 d (.frz od (.dK (pks gs))) b = none → b ≠ d ∧ H9 b = none := fun b e => by
          have : b ≠ d := fun z => by rw [z, upd_same] at e; cases e
          rw [upd_ne this] at e
          exact ⟨this, e⟩
        have Gu : GsAt (upd Hb d (.dK (pks gs))) (fun b => upd H9 d (.frz od (.dK (pks gs))) b = none) D us (gs.filter live) := Gb.keep (Kp.mut Kp.refl fun e => (nd9 d e).1 rfl)
        have lu : ∀ b, upd Hb d (.dK (pks gs)) b = none → upd H9 d (.frz od (.dK (pks gs))) b = none := fun b e => by
          by_cases z : b = d
          · rw [z, upd_same] at e
            cases e
          · rw [upd_ne z] at e
            exact vb b e
        have su : Same H (upd Hb d (.dK (pks gs))) := fun b u e => by
          have b1 : b ≠ d := fun z => by rw [z, nd] at e; cases e
          have b2 : b ≠ D := fun z => by
            have := v9 D (nd9 D nD).2
            rw [z, this] at e
            cases e
          rw [upd_ne b1]
          refine kb b u b2 ?_
          rw [upd_ne b1]
          exact k9 b u b1 e
        refine ⟨D, _, prOf (upd Hb d (.dK (pks gs))), rfl, rfl, Gu.seq, Gu.mem, fun ys p2 hs hb np2 => ?_⟩
        have eM : sitN p n.toNat L = pos (ex E) := by
          have lp' : ∀ s ∈ L, 0 < s := fun s m => by
            rw [hR.e] at m
            obtain ⟨r, mr, er⟩ := ex_mem m
            rw [← er]
            exact (hR.p r mr).1
          have := pour_sit hp (n := n.toNat) (m := n.toNat) (Nat.le_refl _) lp'
          rw [← this, ← hP, ex_append, ← hR.e, show ((n.toNat : Nat) : Int) = n by omega, ex_cons, ex_nil, List.append_nil]
        obtain ⟨Ff, Rl⟩ := hH.rle eM (sitN_dn hp (by rw [hR.e]; exact ex_dn hR.d))
        have hys := sorted_down Ff Gu.prs hs hb
        rw [if_pos rfl]
        have s3 : Same (upd Hb d (.dK (pks gs))) (upd (upd Hb d (.dK (pks gs))) p2 (.lst ys.reverse)) := same_new np2
        obtain ⟨us4, G4, _, hus⟩ := Gu.sortedN (H' := upd (upd Hb d (.dK (pks gs))) p2 (.lst ys.reverse)) (p := p2) (zs := ys.reverse) s3 ((List.reverse_perm ys).trans hb) hys upd_same
        refine q _ p2 us4 _ (su.trans s3) (G4.reB fun b m _ => ?_) Rl ?_
        · rcases m with m | m
          · rw [m]
            exact v9 _ (nd9 _ (lu _ np2)).2
          · exact v9 _ (nd9 _ (Gu.b b (hus b m))).2
        · rw [byAge_length]
          exact Nat.le_trans (List.length_filter_le _ _) lgs
end
end El
namespace El
open PySem PySem.Spec PyProof.Rows L2
section
variable {P : Program} {w : World} {K : PySem.W.Frag} {mg : Str → Option Value} {base : Heap}
abbrev s_is_crowd : Stmt := topS 5
abbrev N_is_crowd : List Str := ["count", "patience"]
abbrev P_is_crowd : List Str := ["count", "patience"]
theorem sc_is_crowd : FnScope N_is_crowd P_is_crowd (defScope s_is_crowd) := ⟨rfl, rfl, rfl, by decide +kernel, rfl, by decide +kernel, by decide +kernel⟩
def sp_is_crowd : Sp := fun vs H Q _ => ∃ c p : Int, vs = [.int c, .int p] ∧ Q (.bl (decide (1 ≤ c) && decide (0 ≤ p))) H
theorem ok_is_crowd (A : At K mg "is_crowd" P_is_crowd s_is_crowd) : Df P w K mg base 1 "is_crowd" P_is_crowd s_is_crowd sp_is_crowd := by
  refine A.df fun f fd F => F.ok sc_is_crowd (fun vs H Q E h => ?_) (fun cdv AA outer s H vs Q E hr h => ?_)
  · obtain ⟨_, _, rfl, _⟩ := h
    rfl
  · obtain ⟨c, p, rfl, q⟩ := h
    have nd := sc_is_crowd.nd
    refine ⟨_, (pss_one (ps_ret (pe_and (pe_cmpR op_ge (pv 0) pe_int (nomark _)) (pe_one (pe_cmpR op_ge (pv 1) pe_int (nomark _)))))), ?_⟩
    refine ⟨.int c, rfl, _, _, rfl, rfl, _, rfl, ite2 (fun e => ?_) (fun e => ?_)⟩
    · have e := of_decide_eq_true e
      rw [decide_eq_true e, Bool.true_and] at q
      exact ⟨.int p, rfl, _, _, rfl, rfl, q⟩
    · rw [decide_eq_false (fun z => e (decide_eq_true z)), Bool.false_and] at q
      exact q
end
end El
namespace El
open PySem PySem.Spec PyProof.Rows L2
section
variable {P : Program} {w : World} {K : PySem.W.Frag} {mg : Str → Option Value} {base : Heap}
abbrev s_check_crowds : Stmt := topS 6
abbrev N_check_crowds : List Str := ["crowds", "number", "count", "patience"]
abbrev P_check_crowds : List Str := ["crowds"]
theorem sc_check_crowds : FnScope N_check_crowds P_check_crowds (defScope s_check_crowds) := ⟨rfl, rfl, rfl, by decide +kernel, rfl, by decide +kernel, by decide +kernel⟩
def sp_check_crowds : Sp := fun vs H Q _ => ∃ (B : Addr → Prop) (a : Addr) (ts : List Addr) (cs : List (Int × Int)), vs = [.ref a] ∧ GsAt H B a ts cs ∧ Crw cs ∧ ∀ H', Same H H' → Q .non H'
theorem ok_check_crowds (A : At K mg "check_crowds" P_check_crowds s_check_crowds) (B : Bi mg) (D_is_crowd : Df P w K mg base 1 "is_crowd" P_is_crowd s_is_crowd sp_is_crowd) : Df P w K mg base 2 "check_crowds" P_check_crowds s_check_crowds sp_check_crowds := by
  refine A.df fun f fd F => F.ok sc_check_crowds (fun vs H Q E h => ?_) (fun cdv AA outer s H vs Q E hr h => ?_)
  · obtain ⟨_, _, _, _, rfl, _⟩ := h
    rfl
  · obtain ⟨BB, a, ts, cs, rfl, hG, hC, q⟩ := h
    have nd := sc_check_crowds.nd
    refine ⟨_, (pss_one (ps_for PassesOwn.never rfl (pi_enum (by rfl) B.enumerate (pa_cons (pv 0) pa_nil)) (pg_tup (by rfl) (pgs_cons (pg_name (i := 1) nd rfl (.inl rfl)) (pgs_cons (pg_tup (by rfl) (pgs_cons (pg_name (i := 2) nd rfl (.inl rfl)) (pgs_cons (pg_name (i := 3) nd rfl (.inl rfl)) pgs_nil))) pgs_nil))) (pss_one (ps_if (pt_not (pt_val (pe_df D_is_crowd (hr.mono (by decide)) (by rfl) (pa_cons (pv 2) (pa_cons (pv 3) pa_nil))))) (pss_one ps_never) pss_nil)))), ?_⟩
    refine ⟨.ref a, rfl, a, ts.map V.ref, rfl, hG.seq, ?_⟩
    refine for_it (walk_enum (xs := ts.map V.ref)) (fun i σ H2 => ∃ y2 y3 y4, σ = [some (.ref a), y2, y3, y4] ∧ Same H H2) ⟨none, none, none, rfl, Same.refl _⟩ (fun i σ H2 _ hW => ?_) (fun i x σ H2 H3 hi hW hY => ?_) (fun σ H2 hW => ?_)
    · obtain ⟨_, _, _, _, sm⟩ := hW
      exact (hG.same sm).seq
    · obtain ⟨y2, y3, y4, rfl, sm⟩ := hW
      obtain ⟨T, x1, x2, rfl, nT, rfl, f1, f2⟩ := hY
      obtain rfl : V.int ↑i = x1 := Option.some.inj f1
      obtain ⟨t, g, rfl, eg, et⟩ := (hG.same sm).get f2
      have s3 : Same H2 (upd H2 T (.tup [.int i, .ref t])) := same_new nT
      refine ⟨T, [.int i, .ref t], rfl, SqT.of upd_same, rfl, .int i, [.ref t], rfl, .ref t, [], rfl, ?_⟩
      refine ⟨t, _, rfl, SqT.of (s3 _ _ et), rfl, .int g.1, [.int g.2], rfl, .int g.2, [], rfl, rfl, rfl, ?_⟩
      have hg := hC g (List.mem_of_getElem? eg)
      refine ⟨.int g.1, rfl, .int g.2, rfl, g.1, g.2, rfl, _, rfl, ?_⟩
      rw [decide_eq_true hg.1, decide_eq_true hg.2]
      refine iteF ?_
      exact ⟨_, _, _, rfl, sm.trans s3⟩
    · obtain ⟨y2, y3, y4, rfl, sm⟩ := hW
      exact q H2 sm
end
end El
namespace El
/-- the sizes of the rooms when crowd after crowd has come -/
def seat (cs : List (Int × Int)) : List Int := cs.foldl (fun L c => sitN c.2 c.1.toNat L) []
theorem seat_snoc (cs : List (Int × Int)) (c : Int × Int) : seat (cs ++ [c]) = sitN c.2 c.1.toNat (seat cs) := by
  unfold seat
  rw [List.foldl_append]
  rfl
theorem sit_len (p : Int) : ∀ L : List Int, (sit p L).length ≤ L.length + 1
  | [] => Nat.le_refl _
  | s :: L => by
    unfold sit
    split
    · exact Nat.le_succ _
    · exact Nat.succ_le_succ (sit_len p L)
theorem sitN_len (p : Int) : ∀ (n : Nat) (L : List Int), (sitN p n L).length ≤ L.length + n
  | 0, _ => Nat.le_refl _
  | n + 1, L => by
    have h1 := sitN_len p n (sit p L)
    have h2 := sit_len p L
    show (sitN p n (sit p L)).length ≤ L.length + (n + 1)
    omega
theorem ex_len : ∀ {R : List (Int × Int)} {r : Int × Int}, r ∈ R → r.2.toNat ≤ (ex R).length
  | x :: R, r, m => by
    rw [ex_cons, List.length_append, List.length_replicate]
    rcases List.mem_cons.mp m with e | m
    · rw [e]
      exact Nat.le_add_right _ _
    · exact Nat.le_trans (ex_len m) (Nat.le_add_left _ _)
end El
namespace El
open PySem PySem.Spec PyProof.Rows L2
/-! ### guests written out crowd by crowd -/
theorem lens_place (a p : Int) : ∀ rs : List (List Int), lens (place rs a p) = sit p (lens rs)
  | [] => rfl
  | r :: rs => by
    unfold place
    show _ = sit p ((r.length : Int) :: lens rs)
    unfold sit
    by_cases h : (r.length : Int) ≤ p
    · rw [if_pos h, if_pos h]
      show ((r ++ [a]).length : Int) :: lens rs = _
      rw [List.length_append]
      rfl
    · rw [if_neg h, if_neg h]
      show (r.length : Int) :: lens (place rs a p) = _
      rw [lens_place a p rs]
theorem lens_fold : ∀ (L : List (Int × Int)) (rs : List (List Int)), lens (L.foldl (fun rs g => place rs g.1 g.2) rs) = (L.map (·.2)).foldl (fun M p => sit p M) (lens rs)
  | [], _ => rfl
  | g :: L, rs => by
    show lens (L.foldl _ (place rs g.1 g.2)) = (L.map (·.2)).foldl _ (sit g.2 (lens rs))
    rw [lens_fold L, lens_place]
/-- the eldest with the greatest years -/
def wrG : List Int → List (Int × Int)
  | [] => []
  | p :: ps => ((ps.length : Int) + 1, p) :: wrG ps
theorem wrG_snd : ∀ ps : List Int, (wrG ps).map (·.2) = ps
  | [] => rfl
  | p :: ps => congrArg (p :: ·) (wrG_snd ps)
theorem wrG_len (ps : List Int) : (wrG ps).length = ps.length := by rw [← List.length_map (f := fun g : Int × Int => g.2), wrG_snd]
theorem wrG_le : ∀ {ps : List Int} {g : Int × Int}, g ∈ wrG ps → g.1 ≤ ps.length
  | p :: ps, g, m => by
    rcases List.mem_cons.mp m with e | m
    · rw [e]
      exact Int.le_refl _
    · have := wrG_le m
      show g.1 ≤ ((ps.length + 1 : Nat) : Int)
      omega
theorem wrG_falls : ∀ ps : List Int, (wrG ps).Pairwise fun g h => h.1 < g.1
  | [] => .nil
  | p :: ps => List.pairwise_cons.mpr ⟨fun g m => by
    have := wrG_le m
    show g.1 < (ps.length : Int) + 1
    omega, wrG_falls ps⟩
theorem wrG_at : ∀ {ps : List Int} {k : Nat} {p : Int}, ps[k]? = some p → (wrG ps)[k]? = some ((ps.length : Int) - k, p)
  | x :: ps, 0, p, h => by
    obtain rfl := Option.some.inj h
    show some ((ps.length : Int) + 1, x) = some (((ps.length + 1 : Nat) : Int) - ((0 : Nat) : Int), x)
    congr 2
  | x :: ps, k + 1, p, h => by
    have := wrG_at (ps := ps) (k := k) h
    show (wrG ps)[k]? = some (((ps.length + 1 : Nat) : Int) - ((k + 1 : Nat) : Int), p)
    rw [this]
    congr 2
    omega
theorem wrG_fit {ps : List Int} (h : ∀ p ∈ ps, 0 ≤ p) : Fit (wrG ps) := by
  refine ⟨?_, fun g m => h _ ?_⟩
  · rw [List.Nodup, List.pairwise_map]
    exact (wrG_falls ps).imp fun h => by omega
  · have := List.mem_map_of_mem (f := fun g : Int × Int => g.2) m
    rw [wrG_snd] at this
    exact this
theorem wrG_lens {ps : List Int} (h : ∀ p ∈ ps, 0 ≤ p) : lens (settle (wrG ps)) = ps.foldl (fun M p => sit p M) [] := by
  have e : wrG ps = byAge (wrG ps) := byAge_of (wrG_fit h) (.refl _) ((wrG_falls ps).imp fun h => by omega)
  show lens (settleL (byAge (wrG ps))) = _
  rw [← e]
  have := lens_fold (wrG ps) []
  rw [wrG_snd] at this
  exact this
theorem fold_rep (p : Int) : ∀ (n : Nat) (L : List Int), (List.replicate n p).foldl (fun M p => sit p M) L = sitN p n L
  | 0, _ => rfl
  | n + 1, L => by
    rw [List.replicate_succ]
    exact fold_rep p n (sit p L)
def lotP (cs : List (Int × Int)) : List Int := cs.flatMap fun c => List.replicate c.1.toNat c.2
theorem fold_lot : ∀ (cs : List (Int × Int)) (L : List Int), (lotP cs).foldl (fun M p => sit p M) L = cs.foldl (fun L c => sitN c.2 c.1.toNat L) L
  | [], _ => rfl
  | c :: cs, L => by
    show ((List.replicate c.1.toNat c.2 ++ lotP cs)).foldl _ L = cs.foldl _ (sitN c.2 c.1.toNat L)
    rw [List.foldl_append, fold_rep, fold_lot cs]
/-- how many live in the first room -/
def hd (L : List Int) : Int := (L ++ [0]).headD 0
theorem hd_sit {p : Int} (hp : 0 ≤ p) : ∀ L : List Int, hd (sit p L) = if hd L ≤ p then hd L + 1 else hd L
  | [] => by
    show (1 : Int) = if (0 : Int) ≤ p then 0 + 1 else 0
    rw [if_pos hp]
    rfl
  | s :: L => by
    unfold sit
    show _ = if s ≤ p then s + 1 else s
    by_cases h : s ≤ p
    · rw [if_pos h, if_pos h]
      rfl
    · rw [if_neg h, if_neg h]
      rfl
theorem hd_sitN {p : Int} (hp : 0 ≤ p) : ∀ (n : Nat) (L : List Int), hd (sitN p n L) = kst (hd L) (n, p)
  | 0, L => by
    show hd L = kst (hd L) (0, p)
    unfold kst
    show hd L = if p + 1 ≤ hd L then hd L else if hd L + 0 ≤ p + 1 then hd L + 0 else p + 1
    split
    · rfl
    · rw [if_pos (by omega), Int.add_zero]
  | n + 1, L => by
    show hd (sitN p n (sit p L)) = _
    rw [hd_sitN hp n, hd_sit hp]
    unfold kst
    show (if p + 1 ≤ (if hd L ≤ p then hd L + 1 else hd L) then (if hd L ≤ p then hd L + 1 else hd L) else if (if hd L ≤ p then hd L + 1 else hd L) + (n : Int) ≤ p + 1 then (if hd L ≤ p then hd L + 1 else hd L) + (n : Int) else p + 1) = if p + 1 ≤ hd L then hd L else if hd L + ((n + 1 : Nat) : Int) ≤ p + 1 then hd L + ((n + 1 : Nat) : Int) else p + 1
    repeat' split
    all_goals omega
theorem hd_lot : ∀ {cs : List (Int × Int)}, Crw cs → ∀ L : List Int, hd (cs.foldl (fun L c => sitN c.2 c.1.toNat L) L) = stay cs (hd L)
  | [], _, _ => rfl
  | c :: cs, h, L => by
    have hc := h c List.mem_cons_self
    show hd (cs.foldl _ (sitN c.2 c.1.toNat L)) = stay cs (kst (hd L) c)
    rw [hd_lot (fun x m => h x (List.mem_cons_of_mem _ m)), hd_sitN hc.2, show ((c.1.toNat : Nat) : Int) = c.1 by omega]
/-- a list of sizes is told in one way -/
theorem Rle.one {R S : List (Int × Int)} {L : List Int} (h : Rle R L) (k : Rle S L) : R = S := by
  have fit : ∀ {R : List (Int × Int)}, Rle R L → Fit R := fun h => ⟨by
    rw [List.Nodup, List.pairwise_map]
    exact h.d.imp fun h => by omega, fun r m => Int.le_of_lt (h.p r m).2⟩
  have val : ∀ {R : List (Int × Int)}, Rle R L → ∀ r ∈ R, r.2 = ((L.count r.1 : Nat) : Int) := fun {R} h r m => by
    have := cnt_pof (fit h).nd (fit h).pos r.1
    rw [pof_is (fit h).nd m] at this
    rw [h.e]
    exact this.symm
  have sub : ∀ {R S : List (Int × Int)}, Rle R L → Rle S L → ∀ r ∈ R, r ∈ S := fun {R S} h k r m => by
    have v := val h r m
    have p := (h.p r m).2
    have : r.1 ∈ L := List.count_pos_iff.mp (by omega)
    rw [k.e] at this
    obtain ⟨s, ms, es⟩ := ex_mem this
    have w := val k s ms
    have : s = r := Prod.ext es (by rw [w, v, es])
    exact this ▸ ms
  have nd : ∀ {R : List (Int × Int)}, Rle R L → R.Nodup := fun h => (h.d.imp fun {a b} h e => by rw [e] at h; omega)
  have pm : R.Perm S := (List.perm_ext_iff_of_nodup (nd h) (nd k)).mpr fun r => ⟨sub h k r, sub k h r⟩
  have e1 : R = byAge S := byAge_of (fit k) pm (h.d.imp fun h => by omega)
  have e2 : S = byAge S := byAge_of (fit k) (.refl _) (k.d.imp fun h => by omega)
  rw [e1, ← e2]
end El
namespace El
/-! ### into which room the so-manieth of a crowd goes -/
/-- the first room in which no more live than are borne -/
def fr (p : Int) : List Int → Int
  | [] => 0
  | s :: L => if s ≤ p then 0 else fr p L + 1
def rnE (p : Int) : Int → List Int → Int
  | n, [] => (n - 1) / plc 0 p
  | n, s :: L => if n ≤ plc s p then 0 else rnE p (n - plc s p) L + 1
theorem sitN_cons {p : Int} : ∀ {n : Nat} {s : Int} {L : List Int}, sitN p n (s :: L) = (s + min (n : Int) (plc s p)) :: sitN p (n - (min (n : Int) (plc s p)).toNat) L
  | 0, s, L => by
    have := plc_nn s p
    rw [show min ((0 : Nat) : Int) (plc s p) = 0 by omega, Int.add_zero]
    rfl
  | n + 1, s, L => by
    show sitN p n (sit p (s :: L)) = _
    unfold sit
    by_cases h : s ≤ p
    · rw [if_pos h, sitN_cons]
      have e1 : plc s p = p + 1 - s := by
        unfold plc
        omega
      have e2 : plc (s + 1) p = p - s := by
        unfold plc
        omega
      rw [e1, e2, show s + 1 + min (n : Int) (p - s) = s + min ((n + 1 : Nat) : Int) (p + 1 - s) by omega, show n - (min (n : Int) (p - s)).toNat = n + 1 - (min ((n + 1 : Nat) : Int) (p + 1 - s)).toNat by omega]
    · rw [if_neg h, sitN_cons]
      have e1 : plc s p = 0 := by
        unfold plc
        omega
      rw [e1, show min (n : Int) 0 = 0 by omega, show min ((n + 1 : Nat) : Int) 0 = 0 by omega]
      rfl
theorem fr_none {p : Int} (hp : 0 ≤ p) : ∀ (n k : Nat), n ≤ k → fr p (sitN p n []) = (n : Int) / (p + 1)
  | 0, _, _ => by
    rw [show ((0 : Nat) : Int) = 0 from rfl, Int.zero_ediv]
    rfl
  | n + 1, 0, h => absurd h (Nat.not_succ_le_zero _)
  | n + 1, k + 1, h => by
    show fr p (sitN p n [1]) = _
    rw [sitN_cons]
    have e1 : plc 1 p = p := by
      unfold plc
      omega
    rw [e1]
    by_cases c : (n : Int) < p
    · rw [show min (n : Int) p = n by omega]
      unfold fr
      rw [if_pos (by omega), Int.ediv_eq_zero_of_lt (by omega) (by omega)]
    · rw [show min (n : Int) p = p by omega]
      unfold fr
      rw [if_neg (by omega), fr_none hp (n - p.toNat) k (by omega)]
      rw [show ((n - p.toNat : Nat) : Int) = (n : Int) - p by omega]
      have : ((n + 1 : Nat) : Int) = ((n : Int) - p) + (p + 1) := by omega
      rw [this, Int.add_ediv_of_dvd_right (Int.dvd_refl _), Int.ediv_self (by omega)]
theorem rnE_fr {p : Int} (hp : 0 ≤ p) : ∀ {L : List Int} {n : Int}, 1 ≤ n → rnE p n L = fr p (sitN p (n - 1).toNat L)
  | [], n, h => by
    rw [fr_none hp _ _ (Nat.le_refl _)]
    unfold rnE plc
    rw [show max 0 (p + 1 - 0) = p + 1 by omega, show (((n - 1).toNat : Nat) : Int) = n - 1 by omega]
  | s :: L, n, h => by
    have hb := plc_nn s p
    rw [sitN_cons]
    unfold rnE fr
    by_cases c : n ≤ plc s p
    · have e1 : plc s p = p + 1 - s := by
        unfold plc at c ⊢
        omega
      rw [if_pos c, if_pos (by omega)]
    · have e1 : p < s + plc s p := by
        unfold plc
        omega
      rw [if_neg c, if_neg (by omega), rnE_fr hp (by omega)]
      rw [show (n - plc s p - 1).toNat = (n - 1).toNat - (min (((n - 1).toNat : Nat) : Int) (plc s p)).toNat by omega]
theorem rnE_run {p z : Int} : ∀ {c : Nat} {n : Int} {X : List Int}, 1 ≤ n → rnE p n (List.replicate c z ++ X) = if n ≤ c * plc z p then (n - 1) / plc z p else rnE p (n - c * plc z p) X + c
  | 0, n, X, h => by
    rw [show ((0 : Nat) : Int) * plc z p = 0 by simp, if_neg (by omega), show n - 0 = n by omega]
    show rnE p n X = rnE p n X + 0
    omega
  | c + 1, n, X, h => by
    have hb := plc_nn z p
    have hcb : 0 ≤ (c : Int) * plc z p := Int.mul_nonneg (by omega) hb
    have hs : ((c + 1 : Nat) : Int) * plc z p = c * plc z p + plc z p := by
      rw [show ((c + 1 : Nat) : Int) = (c : Int) + 1 from rfl, Int.add_mul, Int.one_mul]
    rw [List.replicate_succ, List.cons_append, hs]
    show (if n ≤ plc z p then 0 else rnE p (n - plc z p) (List.replicate c z ++ X) + 1) = _
    by_cases c1 : n ≤ plc z p
    · rw [if_pos c1, if_pos (by omega), Int.ediv_eq_zero_of_lt (by omega) (by omega)]
    · rw [if_neg c1, rnE_run (by omega)]
      by_cases c2 : n - plc z p ≤ c * plc z p
      · have b0 : plc z p ≠ 0 := fun e => by
          rw [e, Int.mul_zero] at c2
          omega
        rw [if_pos c2, if_pos (by omega), show n - 1 = (n - plc z p - 1) + plc z p by omega, Int.add_ediv_of_dvd_right (Int.dvd_refl _), Int.ediv_self b0]
      · rw [if_neg c2, if_neg (by omega), show n - (c * plc z p + plc z p) = n - plc z p - c * plc z p by omega]
        omega
end El
namespace El
open PySem PySem.Spec PyProof.Rows L2
section
variable {P : Program} {w : World} {K : PySem.W.Frag} {mg : Str → Option Value} {base : Heap}
abbrev s_room_of_nth : Stmt := topS 9
abbrev N_room_of_nth : List Str := ["filled", "patience", "nth", "number", "left", "size", "many", "borne"]
abbrev P_room_of_nth : List Str := ["filled", "patience", "nth"]
theorem sc_room_of_nth : FnScope N_room_of_nth P_room_of_nth (defScope s_room_of_nth) := ⟨rfl, rfl, rfl, by decide +kernel, rfl, by decide +kernel, by decide +kernel⟩
theorem log_few {x : Int} (h0 : 0 ≤ x) (h : x < 2 ^ 191) : x.natAbs.log2 ≤ 200 := by
  by_cases hk : x = 0
  · rw [hk]
    decide
  · exact Nat.le_of_lt ((Nat.log2_lt (by omega)).mpr (by omega))
def sp_room_of_nth : Sp := fun vs H Q _ => ∃ (B : Addr → Prop) (a : Addr) (ts : List Addr) (R : List (Int × Int)) (L : List Int) (p n : Int), vs = [.ref a, .int p, .int n] ∧ GsAt H B a ts R ∧ Rle R L ∧ 0 ≤ p ∧ p < 2 ^ 190 ∧ 1 ≤ n ∧ (∀ r ∈ R, r.2 < 2 ^ 190) ∧ Q (.int (rnE p n L)) H
theorem ok_room_of_nth (A : At K mg "room_of_nth" P_room_of_nth s_room_of_nth) (B : Bi mg) (D_places : Df P w K mg base 1 "places" P_places s_places sp_places) : Df P w K mg base 2 "room_of_nth" P_room_of_nth s_room_of_nth sp_room_of_nth := by
  refine A.df fun f fd F => F.ok sc_room_of_nth (fun vs H Q E h => ?_) (fun cdv AA outer s H vs Q E hr h => ?_)
  · obtain ⟨_, _, _, _, _, _, _, rfl, _⟩ := h
    rfl
  · obtain ⟨BB, a, ts, R, L, p, n, rfl, hG, hR, hp, hp2, hn, lR, q⟩ := h
    have nd := sc_room_of_nth.nd
    refine ⟨_, (pss_cons (ps_set (i := 3) nd rfl (.inl rfl) pe_int)
    (pss_cons (ps_set (i := 4) nd rfl (.inl rfl) (pv 2))
    (pss_cons (ps_for PassesOwn.never rfl (pi_list (pv 0)) (pg_tup (by rfl) (pgs_cons (pg_name (i := 5) nd rfl (.inl rfl)) (pgs_cons (pg_name (i := 6) nd rfl (.inl rfl)) pgs_nil))) (pss_cons (ps_set (i := 7) nd rfl (.inl rfl) (pe_df D_places (hr.mono (by decide)) (by rfl) (pa_cons (pv 5) (pa_cons (pv 1) pa_nil)))) (pss_cons (ps_if (pt_cmpR op_le (pv 4) (pe_op op_mulW (pv 6) (pv 7)) (nomark _)) (pss_one (ps_ret (pe_op op_add (pv 3) (pe_op op_fdivW (pe_op op_sub (pv 4) pe_int) (pv 7))))) pss_nil) (pss_cons (ps_aug (i := 4) nd rfl (.inl rfl) (pe_op op_mulW (pv 6) (pv 7)) ip_sub) (pss_one (ps_aug (i := 3) nd rfl (.inl rfl) (pv 6) ip_add))))))
    (pss_one (ps_ret (pe_op op_add (pv 3) (pe_op op_fdivW (pe_op op_sub (pv 4) pe_int) (pe_df D_places (hr.mono (by decide)) (by rfl) (pa_cons pe_int (pa_cons (pv 1) pa_nil)))))))))), ?_⟩
    refine ⟨.int n, rfl, ?_⟩
    dsimp only [gName]
    refine seq_to (fun σ H2 => ∃ num left y5 y6 y7, σ = [some (.ref a), some (.int p), some (.int n), some (.int num), some (.int left), y5, y6, y7] ∧ H2 = H ∧ 1 ≤ left ∧ rnE p n L = num + rnE p left []) (fun X hX => ?_) (fun σ H2 hE => ?_)
    · refine ⟨.ref a, rfl, a, rfl, ⟨_, hG.seq⟩, ?_⟩
      refine for_it (walk_list (xs := ts.map V.ref)) (fun i σ H2 => ∃ num left y5 y6 y7, σ = [some (.ref a), some (.int p), some (.int n), some (.int num), some (.int left), y5, y6, y7] ∧ H2 = H ∧ 1 ≤ left ∧ rnE p n L = num + rnE p left (ex (R.drop i)))
        ⟨0, n, _, _, _, rfl, rfl, hn, by rw [Int.zero_add, List.drop_zero, hR.e]⟩ (fun i σ H2 _ hW => ?_) (fun i v σ H2 H3 hi hW hY => ?_) (fun σ H2 hW => ?_)
      · obtain ⟨_, _, _, _, _, _, e, _⟩ := hW
        rw [e]
        exact hG.seq
      · obtain ⟨num, left, y5, y6, y7, rfl, rfl, h1, hP⟩ := hW
        obtain ⟨rfl, hx⟩ := hY
        obtain ⟨t, ⟨z, c⟩, rfl, eg, et⟩ := hG.get hx
        have mR := List.mem_of_getElem? eg
        have hzc : 0 < z ∧ 0 < c := hR.p _ mR
        have c1 : c < 2 ^ 190 := lR _ mR
        have pl0 := plc_nn z p
        have pl1 : plc z p < 2 ^ 191 := by
          unfold plc
          omega
        have hmul : c.natAbs.log2 + (plc z p).natAbs.log2 < 1000000 := by
          have a1 := log_few (x := c) (by omega) (by omega)
          have a2 := log_few pl0 pl1
          omega
        have hrun : rnE p left (ex (R.drop i)) = if left ≤ c * plc z p then (left - 1) / plc z p else rnE p (left - c * plc z p) (ex (R.drop (i + 1))) + c := by
          obtain ⟨hi', ei'⟩ := List.getElem?_eq_some_iff.mp eg
          rw [List.drop_eq_getElem_cons hi', ei', ex_cons]
          have := rnE_run (p := p) (z := z) (c := c.toNat) (n := left) (X := ex (R.drop (i + 1))) h1
          rw [show ((c.toNat : Nat) : Int) = c by omega] at this
          exact this
        refine ⟨t, _, rfl, SqT.of et, rfl, .int z, _, rfl, .int c, _, rfl, rfl, ?_⟩
        refine ⟨.int z, rfl, .int p, rfl, z, p, rfl, ?_⟩
        dsimp only [gName]
        refine ⟨.int left, rfl, .int c, rfl, .int (plc z p), rfl, _, _, rfl, rfl, hmul, _, _, rfl, rfl, _, rfl, ?_⟩
        by_cases hle : left ≤ c * plc z p
        · rw [if_pos hle] at hrun
          have hb : 0 < plc z p := by
            rcases Int.lt_or_eq_of_le pl0 with h | h
            · exact h
            · rw [← h, Int.mul_zero] at hle
              omega
          refine ifYes (decide_eq_true hle) ?_
          refine ⟨.int num, rfl, .int left, rfl, _, _, rfl, rfl, .int (plc z p), rfl, _, _, rfl, rfl, ⟨hb, Nat.lt_of_le_of_lt (log_few pl0 pl1) (by decide)⟩, _, _, rfl, rfl, ?_⟩
          rw [hP, hrun] at q
          exact q
        · rw [if_neg hle] at hrun
          refine ifNo (decide_eq_false hle) ?_
          refine ⟨.int left, rfl, .int c, rfl, .int (plc z p), rfl, _, _, rfl, rfl, hmul, _, _, rfl, rfl, ?_⟩
          refine ⟨.int num, rfl, .int c, rfl, _, _, rfl, rfl, ?_⟩
          exact ⟨num + c, left - c * plc z p, _, _, _, rfl, rfl, by omega, by rw [hP, hrun]; omega⟩
      · obtain ⟨num, left, y5, y6, y7, rfl, rfl, h1, hP⟩ := hW
        have lu : (ts.map V.ref).length = R.length := by rw [List.length_map, hG.len]
        rw [lu, List.drop_length, ex_nil] at hP
        exact hX _ _ ⟨num, left, _, _, _, rfl, rfl, h1, hP⟩
    · obtain ⟨num, left, y5, y6, y7, rfl, rfl, h1, hP⟩ := hE
      have hb : plc 0 p = p + 1 := by
        unfold plc
        omega
      refine ⟨.int num, rfl, .int left, rfl, _, _, rfl, rfl, .int p, rfl, 0, p, rfl, _, _, rfl, rfl, ⟨by omega, Nat.lt_of_le_of_lt (log_few (plc_nn 0 p) (by omega)) (by decide)⟩, _, _, rfl, rfl, ?_⟩
      rw [hP] at q
      exact q
end
end El
namespace El
open PySem PySem.Spec PyProof.Rows L2
section
variable {P : Program} {w : World} {K : PySem.W.Frag} {mg : Str → Option Value} {base : Heap}
abbrev s_room_of : Stmt := topS 8
abbrev N_room_of : List Str := ["crowds", "m", "filled", "nth", "count", "patience"]
abbrev P_room_of : List Str := ["crowds", "m"]
theorem sc_room_of : FnScope N_room_of P_room_of (defScope s_room_of) := ⟨rfl, rfl, rfl, by decide +kernel, rfl, by decide +kernel, by decide +kernel⟩
/-- the room of the m-th of these crowds, who come into rooms of such sizes -/
def rmOf : List Int → List (Int × Int) → Int → Int
  | _, [], _ => 0
  | L, c :: cs, m => if m ≤ c.1 then rnE c.2 m L else rmOf (sitN c.2 c.1.toNat L) cs (m - c.1)
def allOf (cs : List (Int × Int)) : Int := (cs.map (·.1)).sum
def sp_room_of : Sp := fun vs H Q _ => ∃ (B : Addr → Prop) (a : Addr) (ts : List Addr) (cs : List (Int × Int)) (m : Int), vs = [.ref a, .int m] ∧ GsAt H B a ts cs ∧ Crw cs ∧ (∀ c ∈ cs, c.1 < 2 ^ 150 ∧ c.2 < 2 ^ 150) ∧ cs.length ≤ 100 ∧ 1 ≤ m ∧ m ≤ allOf cs ∧
  ∀ H', Same H H' → Q (.int (rmOf [] cs m)) H'
theorem ok_room_of (A : At K mg "room_of" P_room_of s_room_of) (B : Bi mg) (D_check_crowds : Df P w K mg base 2 "check_crowds" P_check_crowds s_check_crowds sp_check_crowds) (D_after_crowd : Df P w K mg base 3 "after_crowd" P_after_crowd s_after_crowd sp_after_crowd) (D_room_of_nth : Df P w K mg base 2 "room_of_nth" P_room_of_nth s_room_of_nth sp_room_of_nth) : Df P w K mg base 4 "room_of" P_room_of s_room_of sp_room_of := by
  refine A.df fun f fd F => F.ok sc_room_of (fun vs H Q E h => ?_) (fun cdv AA outer s H vs Q E hr h => ?_)
  · obtain ⟨_, _, _, _, _, rfl, _⟩ := h
    rfl
  · obtain ⟨BB, a, ts, cs, m, rfl, hG, hC, hc, hl, hm, hma, q⟩ := h
    have nd := sc_room_of.nd
    refine ⟨_, (pss_cons (ps_expr (pe_df D_check_crowds (hr.mono (by decide)) (by rfl) (pa_cons (pv 0) pa_nil)))
    (pss_cons (ps_if (pt_cmpR op_lt (pv 1) pe_int (nomark _)) (pss_one ps_never) pss_nil)
    (pss_cons (ps_set (i := 2) nd rfl (.inl rfl) (pe_lst pa_nil))
    (pss_cons (ps_set (i := 3) nd rfl (.inl rfl) (pv 1))
    (pss_cons (ps_for PassesOwn.never rfl (pi_list (pv 0)) (pg_tup (by rfl) (pgs_cons (pg_name (i := 4) nd rfl (.inl rfl)) (pgs_cons (pg_name (i := 5) nd rfl (.inl rfl)) pgs_nil))) (pss_cons (ps_if (pt_cmpR op_le (pv 3) (pv 4) (nomark _)) (pss_one (ps_ret (pe_df D_room_of_nth (hr.mono (by decide)) (by rfl) (pa_cons (pv 2) (pa_cons (pv 5) (pa_cons (pv 3) pa_nil)))))) pss_nil) (pss_cons (ps_set (i := 2) nd rfl (.inl rfl) (pe_df D_after_crowd (hr.mono (by decide)) (by rfl) (pa_cons (pv 2) (pa_cons (pv 4) (pa_cons (pv 5) pa_nil))))) (pss_one (ps_aug (i := 3) nd rfl (.inl rfl) (pv 4) ip_sub)))))
    (pss_one ps_never)))))), ?_⟩
    refine ⟨.ref a, rfl, BB, a, ts, cs, rfl, hG, hC, fun H1 s1 => ?_⟩
    refine ⟨.int m, rfl, _, _, rfl, rfl, _, rfl, ifNo (decide_eq_false (by omega)) ?_⟩
    -- filled = []
    refine ⟨Nat.zero_le _, fun o no => ?_⟩
    dsimp only [gName]
    have s2 := s1.trans (same_new (o := .lst []) no)
    refine ⟨.int m, rfl, ?_⟩
    dsimp only [gName]
    refine seq_to (fun σ H2 => False) (fun X hX => ?_) (fun σ H2 hE => hE.elim)
    refine ⟨.ref a, rfl, a, rfl, ⟨_, (hG.same s2).seq⟩, ?_⟩
    refine for_it (walk_list (xs := ts.map V.ref)) (fun i σ H2 => ∃ o us R nth y4 y5, σ = [some (.ref a), some (.int m), some (.ref o), some (.int nth), y4, y5] ∧ Same H H2 ∧ GsAt H2 (fun b => H b = none) o us R ∧ Rle R (seat (cs.take i)) ∧ R.length ≤ 3 * i ∧ (seat (cs.take i)).length ≤ i * 2 ^ 150 ∧ 1 ≤ nth ∧ nth ≤ allOf (cs.drop i) ∧ rmOf [] cs m = rmOf (seat (cs.take i)) (cs.drop i) nth)
      ⟨o, [], [], m, _, _, rfl, s2, ⟨upd_same, s1.free no, rfl, fun i t g e _ => by simp at e, fun t m => (List.not_mem_nil m).elim⟩, ⟨rfl, .nil, fun r m => (List.not_mem_nil m).elim⟩, Nat.zero_le _, Nat.zero_le _, hm, hma, rfl⟩ (fun i σ H2 _ hW => ?_) (fun i v σ H2 H3 hi hW hY => ?_) (fun σ H2 hW => ?_)
    · obtain ⟨_, _, _, _, _, _, _, s3, _⟩ := hW
      exact (hG.same s3).seq
    · obtain ⟨o, us, R, nth, y4, y5, rfl, s3, Go, Ro, lR, lL, n1, n2, hP⟩ := hW
      obtain ⟨rfl, hx⟩ := hY
      obtain ⟨t, c, rfl, eg, et⟩ := (hG.same s3).get hx
      have hi' := at_lt eg
      have mc := List.mem_of_getElem? eg
      have c0 := hC c mc
      have c1 := hc c mc
      have hdr : cs.drop i = c :: cs.drop (i + 1) := by
        obtain ⟨h1, h2⟩ := List.getElem?_eq_some_iff.mp eg
        rw [List.drop_eq_getElem_cons h1, h2]
      rw [hdr] at hP n2
      have hall : allOf (c :: cs.drop (i + 1)) = c.1 + allOf (cs.drop (i + 1)) := rfl
      rw [hall] at n2
      have h1 : i * 2 ^ 150 ≤ 100 * 2 ^ 150 := Nat.mul_le_mul_right _ (by omega)
      have hr2 : ∀ r ∈ R, r.2 < 2 ^ 190 := fun r m => by
        have := ex_len m
        rw [← Ro.e] at this
        omega
      refine ⟨t, _, rfl, SqT.of et, rfl, .int c.1, _, rfl, .int c.2, _, rfl, rfl, ?_⟩
      refine ⟨.int nth, rfl, .int c.1, rfl, _, _, rfl, rfl, _, rfl, ?_⟩
      by_cases hle : nth ≤ c.1
      · refine ifYes (decide_eq_true hle) ?_
        have hv : rmOf [] cs m = rnE c.2 nth (seat (cs.take i)) := by
          rw [hP]
          unfold rmOf
          rw [if_pos hle]
        refine ⟨.ref o, rfl, .int c.2, rfl, .int nth, rfl, _, o, us, R, _, c.2, nth, rfl, Go, Ro, c0.2, by omega, n1, hr2, ?_⟩
        rw [← hv]
        exact q _ s3
      · refine ifNo (decide_eq_false hle) ?_
        refine ⟨.ref o, rfl, .int c.1, rfl, .int c.2, rfl, _, o, us, R, seat (cs.take i), c.1, c.2, rfl, Go, Ro, by omega, by omega, by omega, by omega, hr2, by omega, fun H4 q4 us4 R4 s4 G4 Rl4 l4 => ?_⟩
        dsimp only [gName]
        refine ⟨.int nth, rfl, .int c.1, rfl, _, _, rfl, rfl, ?_⟩
        refine ⟨q4, us4, R4, nth - c.1, _, _, rfl, s3.trans s4, G4.weaken fun b e => s3.free e, ?_, by omega, ?_, by omega, by omega, ?_⟩
        · rw [take_snoc eg, seat_snoc]
          exact Rl4
        · rw [take_snoc eg, seat_snoc]
          have := sitN_len c.2 c.1.toNat (seat (cs.take i))
          have h2 : (i + 1) * 2 ^ 150 = i * 2 ^ 150 + 2 ^ 150 := by rw [Nat.add_mul, Nat.one_mul]
          omega
        · rw [take_snoc eg, seat_snoc, hP]
          show (if nth ≤ c.1 then _ else _) = _
          rw [if_neg hle]
    · obtain ⟨o, us, R, nth, y4, y5, rfl, s3, Go, Ro, lR, lL, n1, n2, hP⟩ := hW
      rw [List.length_map, hG.len, List.drop_length] at n2
      have : allOf ([] : List (Int × Int)) = 0 := rfl
      omega
end
end El
namespace El
open PySem PySem.Spec PyProof.Rows L2
/-! ### a crowd parted in two -/
theorem sitN_add (p : Int) : ∀ (a b : Nat) (L : List Int), sitN p (a + b) L = sitN p b (sitN p a L)
  | 0, b, L => by
    rw [Nat.zero_add]
    rfl
  | a + 1, b, L => by
    rw [Nat.succ_add]
    exact sitN_add p a b (sit p L)
theorem seat_parted {pre post : List (Int × Int)} {a b p : Int} (ha : 0 ≤ a) (hb : 0 ≤ b) : seat (pre ++ (a, p) :: (b, p) :: post) = seat (pre ++ (a + b, p) :: post) := by
  unfold seat
  rw [List.foldl_append, List.foldl_append, List.foldl_cons, List.foldl_cons, List.foldl_cons]
  rw [show (a + b).toNat = a.toNat + b.toNat by omega, sitN_add]
/-- the rooms of one crowd never fall -/
theorem fr_sit {p : Int} (hp : 0 ≤ p) : ∀ L : List Int, fr p L ≤ fr p (sit p L)
  | [] => by
    unfold sit fr
    split
    · exact Int.le_refl _
    · unfold fr
      omega
  | s :: L => by
    unfold sit
    by_cases h : s ≤ p
    · rw [if_pos h]
      have nn : ∀ M : List Int, 0 ≤ fr p M := fun M => by
        induction M with
        | nil => exact Int.le_refl _
        | cons x M ih =>
          unfold fr
          split
          · exact Int.le_refl _
          · omega
      show fr p (s :: L) ≤ fr p ((s + 1) :: L)
      have e1 : fr p (s :: L) = 0 := if_pos h
      rw [e1]
      exact nn _
    · rw [if_neg h]
      have e1 : fr p (s :: L) = fr p L + 1 := if_neg h
      have e2 : fr p (s :: sit p L) = fr p (sit p L) + 1 := if_neg h
      rw [e1, e2]
      have := fr_sit hp L
      omega
theorem fr_sitN {p : Int} (hp : 0 ≤ p) : ∀ (n : Nat) (L : List Int), fr p L ≤ fr p (sitN p n L)
  | 0, _ => Int.le_refl _
  | n + 1, L => Int.le_trans (fr_sit hp L) (fr_sitN hp n (sit p L))
end El
namespace El
/-! ### all guests of some crowds, written one by one -/
theorem lotP_cons (c : Int × Int) (cs : List (Int × Int)) : lotP (c :: cs) = List.replicate c.1.toNat c.2 ++ lotP cs := List.flatMap_cons
theorem lotP_cat (cs ds : List (Int × Int)) : lotP (cs ++ ds) = lotP cs ++ lotP ds := List.flatMap_append
theorem rmOf_fr : ∀ {cs : List (Int × Int)} {L : List Int} {k : Nat} {p : Int}, Crw cs → (lotP cs)[k]? = some p → rmOf L cs ((k : Int) + 1) = fr p (((lotP cs).take k).foldl (fun M p => sit p M) L)
  | [], _, k, p, _, e => by
    rw [show lotP [] = [] from rfl, List.getElem?_nil] at e
    cases e
  | c :: cs, L, k, p, h, e => by
    have ⟨hc, hs⟩ := h.cons
    rw [lotP_cons] at e ⊢
    unfold rmOf
    by_cases hk : k < c.1.toNat
    · rw [List.getElem?_append_left (by rw [List.length_replicate]; exact hk), List.getElem?_replicate, if_pos hk] at e
      obtain rfl := Option.some.inj e
      rw [if_pos (by omega), List.take_append_of_le_length (by rw [List.length_replicate]; omega), List.take_replicate, Nat.min_eq_left (by omega), fold_rep, rnE_fr hc.2 (by omega), show ((k : Int) + 1 - 1).toNat = k by omega]
    · obtain ⟨j, rfl⟩ : ∃ j, k = c.1.toNat + j := ⟨k - c.1.toNat, by omega⟩
      rw [List.getElem?_append_right (by rw [List.length_replicate]; omega), List.length_replicate, Nat.add_sub_cancel_left] at e
      rw [if_neg (by omega), show ((c.1.toNat + j : Nat) : Int) + 1 - c.1 = (j : Int) + 1 by omega, rmOf_fr hs e]
      rw [List.take_append, List.length_replicate, List.take_of_length_le (l := List.replicate c.1.toNat c.2) (by rw [List.length_replicate]; omega), Nat.add_sub_cancel_left, List.foldl_append, fold_rep]
theorem lotP_all : ∀ {cs : List (Int × Int)}, Crw cs → ((lotP cs).length : Int) = allOf cs
  | [], _ => rfl
  | c :: cs, h => by
    have ⟨hc, hs⟩ := h.cons
    have ea : allOf (c :: cs) = c.1 + allOf cs := List.sum_cons
    rw [lotP_cons, ea, List.length_append, List.length_replicate, ← lotP_all hs]
    omega
/-- crowds that write out the same guests -/
def Same1 (cs ds : List (Int × Int)) : Prop := lotP ds = lotP cs
theorem Same1.st {cs ds : List (Int × Int)} (h : Same1 cs ds) : seat ds = seat cs := by
  have e : ∀ L, seat L = (lotP L).foldl (fun M p => sit p M) [] := fun L => (fold_lot L []).symm
  rw [e, e, h]
theorem Same1.al {cs ds : List (Int × Int)} (h : Same1 cs ds) (hc : Crw cs) (hd : Crw ds) : allOf ds = allOf cs := by
  rw [← lotP_all hc, ← lotP_all hd, h]
theorem Same1.rm {cs ds : List (Int × Int)} (h : Same1 cs ds) (hc : Crw cs) (hd : Crw ds) {m : Int} (m1 : 1 ≤ m) (m2 : m ≤ allOf cs) : rmOf [] ds m = rmOf [] cs m := by
  obtain ⟨k, rfl⟩ : ∃ k : Nat, m = (k : Int) + 1 := ⟨(m - 1).toNat, by omega⟩
  rw [← lotP_all hc] at m2
  obtain ⟨p, ep⟩ : ∃ p, (lotP cs)[k]? = some p := ⟨_, List.getElem?_eq_getElem (show k < (lotP cs).length by omega)⟩
  rw [rmOf_fr hc ep, rmOf_fr hd (h ▸ ep), h]
theorem seat_fold (cs : List (Int × Int)) : seat cs = cs.foldl (fun L c => sitN c.2 c.1.toNat L) [] := rfl
/-- the m-th of one of the crowds -/
theorem rmOf_mid : ∀ {pre : List (Int × Int)} {post : List (Int × Int)} {c : Int × Int} {L : List Int} {m : Int}, Crw pre → 1 ≤ m → m ≤ c.1 → rmOf L (pre ++ c :: post) (allOf pre + m) = rnE c.2 m (pre.foldl (fun L c => sitN c.2 c.1.toNat L) L)
  | [], post, c, L, m, _, m1, m2 => by
    have e : allOf [] + m = m := Int.zero_add m
    rw [e]
    show (if m ≤ c.1 then _ else _) = _
    rw [if_pos m2]
    rfl
  | d :: pre, post, c, L, m, h, m1, m2 => by
    have ⟨hd, hp⟩ := h.cons
    have e : allOf (d :: pre) = d.1 + allOf pre := List.sum_cons
    have e0 : ∀ {cs : List (Int × Int)}, Crw cs → 0 ≤ allOf cs := fun h => by
      rw [← lotP_all h]
      exact Int.natCast_nonneg _
    have := e0 hp
    show (if allOf (d :: pre) + m ≤ d.1 then _ else rmOf (sitN d.2 d.1.toNat L) (pre ++ c :: post) (allOf (d :: pre) + m - d.1)) = _
    rw [if_neg (by rw [e]; omega), show allOf (d :: pre) + m - d.1 = allOf pre + m by rw [e]; omega, rmOf_mid hp m1 m2]
    rfl
theorem rnE_rises {p : Int} (hp : 0 ≤ p) {L : List Int} {m n : Int} (m1 : 1 ≤ m) (h : m ≤ n) : rnE p m L ≤ rnE p n L := by
  rw [rnE_fr hp m1, rnE_fr hp (by omega), show (n - 1).toNat = (m - 1).toNat + (n - m).toNat by omega, sitN_add]
  exact fr_sitN hp _ _
end El
namespace El
open PySem PySem.Spec PyProof.Rows L2
/-- the pot: what a great cell has more, a number to be mixed, how many were mixed -/
structure Pot (H : Hp) (b : Addr) (n : Nat) : Prop where
  ex : ∃ x y t : Int, H b = some (.lst [.int x, .int y, .int t]) ∧ 0 ≤ x ∧ 0 ≤ y ∧ y < 2 ^ 63 ∧ 0 ≤ t ∧ t ≤ n
theorem Pot.same {H H' : Hp} {b : Addr} {n : Nat} (h : Pot H b n) (k : Same H H') : Pot H' b n :=
  let ⟨x, y, t, e, r⟩ := h.ex
  ⟨x, y, t, k _ _ e, r⟩
theorem Pot.kept {H H' : Hp} {b : Addr} {n : Nat} {B : Addr → Prop} (h : Pot H b n) (k : Kp B H H') (hb : B b) : Pot H' b n :=
  let ⟨x, y, t, e, r⟩ := h.ex
  ⟨x, y, t, k _ _ hb e, r⟩
theorem Pot.more {H : Hp} {b : Addr} {n m : Nat} (h : Pot H b n) (k : n ≤ m) : Pot H b m :=
  let ⟨x, y, t, e, r1, r2, r3, r4, r5⟩ := h.ex
  ⟨x, y, t, e, r1, r2, r3, r4, by omega⟩
/-- ** of a greater base -/
def CPowB (i j : Int) : Prop := 0 ≤ j ∧ (Builtin.Int.intBits i : Int) * j ≤ 2 ^ 27
theorem op_powB {X : Cx} : OpR X (binaryOp .Pow) (rI CPowB fun i j => .int (i ^ j.toNat)) := opI fun _ _ _ _ _ _ _ hc q => pow_int hc.1 hc.2 q
theorem few_bits {a : Int} (h : a.natAbs < 2 ^ 200) : Builtin.Int.intBits a ≤ 201 := by
  unfold Builtin.Int.intBits
  split
  · omega
  · rename_i h0
    have := (Nat.log2_lt (show a.natAbs ≠ 0 from fun e => h0 (by simpa using e))).mpr h
    omega
section
variable {P : Program} {w : World} {K : PySem.W.Frag} {mg : Str → Option Value} {base : Heap}
abbrev s__law_draw : Stmt := topS 15
abbrev N__law_draw : List Str := ["pot", "many", "drawn", "mixed"]
abbrev P__law_draw : List Str := ["pot", "many"]
theorem sc__law_draw : FnScope N__law_draw P__law_draw (defScope s__law_draw) := ⟨rfl, rfl, rfl, by decide +kernel, rfl, by decide +kernel, by decide +kernel⟩
def sp__law_draw : Sp := fun vs H Q _ => ∃ (b : Addr) (n : Nat) (m : Int), vs = [.ref b, .int m] ∧ Pot H b n ∧ n ≤ 1000000000 ∧ 0 < m ∧ m < 2 ^ 200 ∧
  ∀ H' r, Kp (fun z => z ≠ b) H H' → Pot H' b (n + 1) → 0 ≤ r → r < m → Q (.int r) H'
theorem ok__law_draw (A : At K mg "_law_draw" P__law_draw s__law_draw) (B : Bi mg) : Df P w K mg base 1 "_law_draw" P__law_draw s__law_draw sp__law_draw := by
  refine A.df fun f fd F => F.ok sc__law_draw (fun vs H Q E h => ?_) (fun cdv AA outer s H vs Q E hr h => ?_)
  · obtain ⟨_, _, _, rfl, _⟩ := h
    rfl
  · obtain ⟨b, n, m, rfl, hT, hn, m0, m1, q⟩ := h
    have nd := sc__law_draw.nd
    refine ⟨_, (pss_cons (ps_if (pt_cmpR op_gt (pe_ix ix_list (pv 0) pe_int (fun _ _ => rfl)) pe_int (nomark _)) (pss_cons (ps_set (i := 2) nd rfl (.inl rfl) (pe_op op_mod (pe_ix ix_list (pv 0) pe_int (fun _ _ => rfl)) (pv 1))) (pss_cons (ps_asg (pe_op op_fdivW (pe_ix ix_list (pv 0) pe_int (fun _ _ => rfl)) (pv 1)) (pg_sub (pv 0) pe_int set_list)) (pss_one (ps_ret (pv 2))))) pss_nil)
    (pss_cons (ps_asg (pe_op op_add (pe_ix ix_list (pv 0) pe_int (fun _ _ => rfl)) pe_int) (pg_sub (pv 0) pe_int set_list))
    (pss_cons (ps_set (i := 3) nd rfl (.inl rfl) (pe_op op_mod (pe_op op_powB (pe_op op_add (pe_ix ix_list (pv 0) pe_int (fun _ _ => rfl)) (pe_op op_mul pe_int (pe_ix ix_list (pv 0) pe_int (fun _ _ => rfl)))) pe_int) pe_int))
    (pss_cons (ps_set (i := 3) nd rfl (.inl rfl) (pe_op op_mod (pe_op op_powB (pe_op op_add (pv 3) (pe_op op_mul pe_int (pe_ix ix_list (pv 0) pe_int (fun _ _ => rfl)))) pe_int) pe_int))
    (pss_one (ps_ret (pe_op op_mod (pe_op op_fdivW (pv 3) pe_int) (pv 1)))))))), ?_⟩
    obtain ⟨x, y, t, j1, x0, y0, y1, t0, t1⟩ := hT.ex
    refine ⟨.ref b, rfl, b, _, 0, .int x, rfl, rfl, SqL.of j1, atI_nat (j := 0) rfl, _, _, rfl, rfl, _, rfl, ite2 (fun ea => ?_) (fun ea => ?_)⟩
    · have g1 : CDivW x m := ⟨m0, Nat.lt_trans (log_lt m0 m1) (by decide)⟩
      refine ⟨.ref b, rfl, b, _, 0, .int x, rfl, rfl, SqL.of j1, atI_nat (j := 0) rfl, .int m, rfl, _, _, rfl, rfl, m0, ?_⟩
      refine ⟨.ref b, rfl, b, _, 0, .int x, rfl, rfl, SqL.of j1, atI_nat (j := 0) rfl, .int m, rfl, _, _, rfl, rfl, g1, .ref b, rfl, b, _, 0, 0, rfl, rfl, j1, rfl, _, rfl, ?_⟩
      exact q _ _ (Kp.mut Kp.refl fun z => z rfl) ⟨x / m, y, t, upd_same, Int.ediv_nonneg x0 (by omega), y0, y1, t0, by omega⟩ (Int.emod_nonneg _ (by omega)) (Int.emod_lt_of_pos _ m0)
    · refine ⟨.ref b, rfl, b, _, 2, .int t, rfl, rfl, SqL.of j1, atI_nat (j := 2) rfl, _, _, rfl, rfl, .ref b, rfl, b, _, 2, 2, rfl, rfl, j1, rfl, ?_⟩
      have e1 : upd H b (.lst [.int x, .int y, .int (t + 1)]) b = some (.lst [.int x, .int y, .int (t + 1)]) := upd_same
      have k1 : Kp (fun z => z ≠ b) H (upd H b (.lst [.int x, .int y, .int (t + 1)])) := Kp.mut Kp.refl fun z => z rfl
      have T1 : Pot (upd H b (.lst [.int x, .int y, .int (t + 1)])) b (n + 1) := ⟨x, y, t + 1, e1, x0, y0, y1, by omega, by omega⟩
      show tSeq _ _ _ _ (upd H b (.lst [.int x, .int y, .int (t + 1)]))
      revert e1 k1 T1
      generalize upd H b (.lst [.int x, .int y, .int (t + 1)]) = H1
      intro e1 k1 T1
      refine ⟨.ref b, rfl, b, _, 1, .int y, rfl, rfl, SqL.of e1, atI_nat (j := 1) rfl, .ref b, rfl, b, _, 2, .int (t + 1), rfl, rfl, SqL.of e1, atI_nat (j := 2) rfl, _, _, rfl, rfl, .inl (by decide), _, _, rfl, rfl, ?_⟩
      refine ⟨_, _, rfl, rfl, ⟨by decide, ?_⟩, _, _, rfl, rfl, (by show (0 : Int) < 162259276829213363391578010288127; decide), ?_⟩
      · have hb : (y + 15485863 * (t + 1)).natAbs < 2 ^ 200 := by omega
        have := few_bits hb
        show (Builtin.Int.intBits (y + 15485863 * (t + 1)) : Int) * 3 ≤ 2 ^ 27
        omega
      have hx : 0 ≤ (y + 15485863 * (t + 1)) ^ (3 : Int).toNat % 162259276829213363391578010288127 ∧ (y + 15485863 * (t + 1)) ^ (3 : Int).toNat % 162259276829213363391578010288127 < 162259276829213363391578010288127 := ⟨Int.emod_nonneg _ (by decide), Int.emod_lt_of_pos _ (by decide)⟩
      dsimp only [gName]
      revert hx
      generalize (y + 15485863 * (t + 1)) ^ (3 : Int).toNat % 162259276829213363391578010288127 = X
      intro hx
      refine ⟨.int X, rfl, .ref b, rfl, b, _, 2, .int (t + 1), rfl, rfl, SqL.of e1, atI_nat (j := 2) rfl, _, _, rfl, rfl, .inl (by decide), _, _, rfl, rfl, _, _, rfl, rfl, ⟨by decide, ?_⟩, _, _, rfl, rfl, (by show (0 : Int) < 170141183460469231731687303715884105727; decide), ?_⟩
      · have hb : (X + 32452843 * (t + 1)).natAbs < 2 ^ 200 := by omega
        have := few_bits hb
        show (Builtin.Int.intBits (X + 32452843 * (t + 1)) : Int) * 5 ≤ 2 ^ 27
        omega
      dsimp only [gName]
      generalize (X + 32452843 * (t + 1)) ^ (5 : Int).toNat % 170141183460469231731687303715884105727 = Y
      refine ⟨.int Y, rfl, _, _, rfl, rfl, ⟨by decide, by decide⟩, .int m, rfl, _, _, rfl, rfl, m0, ?_⟩
      exact q _ _ k1 T1 (Int.emod_nonneg _ (by omega)) (Int.emod_lt_of_pos _ m0)
end
end El
namespace El
open PySem PySem.Spec PyProof.Rows L2
section
variable {P : Program} {w : World} {K : PySem.W.Frag} {mg : Str → Option Value} {base : Heap}
abbrev s__law_pot : Stmt := topS 14
abbrev N__law_pot : List Str := ["script", "at", "cell"]
abbrev P__law_pot : List Str := ["script", "at"]
theorem sc__law_pot : FnScope N__law_pot P__law_pot (defScope s__law_pot) := ⟨rfl, rfl, rfl, by decide +kernel, rfl, by decide +kernel, by decide +kernel⟩
def sp__law_pot (K : PySem.W.Frag) : Sp := fun vs H Q _ => ∃ (a : Addr) (ns : List Int) (i : Nat), vs = [.ref a, .int i] ∧ SqL K H a (ns.map V.int) ∧ i ≤ 1000 ∧
  ∀ H' b, Same H H' → H b = none → Pot H' b 0 → Q (.ref b) H'
theorem ok__law_pot (A : At K mg "_law_pot" P__law_pot s__law_pot) (B : Bi mg) : Df P w K mg base 1 "_law_pot" P__law_pot s__law_pot (sp__law_pot K) := by
  refine A.df fun f fd F => F.ok sc__law_pot (fun vs H Q E h => ?_) (fun cdv AA outer s H vs Q E hr h => ?_)
  · obtain ⟨_, _, _, rfl, _⟩ := h
    rfl
  · obtain ⟨a, ns, i, rfl, hS, hi, q⟩ := h
    have nd := sc__law_pot.nd
    refine ⟨_, (pss_cons (ps_set (i := 2) nd rfl (.inl rfl) pe_int)
    (pss_cons (ps_if (pt_cmpR op_lt (pv 1) (pe_callB call_len_seq (by rfl) B.len PySem.boot_len (pa_cons (pv 0) pa_nil)) (nomark _)) (pss_one (ps_set (i := 2) nd rfl (.inl rfl) (pe_ix ix_list (pv 0) (pv 1) (fun _ _ => rfl)))) pss_nil)
    (pss_one (ps_ret (pe_lst (pa_cons (pe_callB (call_max2 rfl) (by rfl) B.max (by decide +kernel) (pa_cons pe_int (pa_cons (pe_op op_sub (pe_callB call_abs (by rfl) B.abs (by decide +kernel) (pa_cons (pv 2) pa_nil)) (pe_op op_pow pe_int pe_int)) pa_nil))) (pa_cons (pe_op op_add (pe_op op_mod (pv 2) pe_int) (pe_op op_mul pe_int (pe_op op_add (pv 1) pe_int))) (pa_cons pe_int pa_nil)))))))), ?_⟩
    refine seq_set ?_
    refine seq_to (fun σ H2 => ∃ c : Int, σ = [some (.ref a), some (.int i), some (.int c)] ∧ H2 = H) (fun X hX => ?_) (fun σ H2 hE => ?_)
    · refine ⟨.int i, rfl, .ref a, rfl, a, _, rfl, .inl hS, _, _, rfl, rfl, _, rfl, ite2 (fun e => ?_) (fun _ => ?_)⟩
      · have e : (i : Int) < ((ns.map V.int).length : Nat) := of_decide_eq_true e
        rw [List.length_map] at e
        obtain ⟨c, ec⟩ := at_some (show i < ns.length by omega)
        exact ⟨.ref a, rfl, .int i, rfl, a, _, i, .int c, rfl, rfl, hS, atI_nat (by rw [List.getElem?_map, ec]; rfl), hX _ _ ⟨c, rfl, rfl⟩⟩
      · exact hX _ _ ⟨0, rfl, rfl⟩
    · obtain ⟨c, rfl, rfl⟩ := hE
      refine ⟨.int c, rfl, c, rfl, _, _, rfl, rfl, ⟨by decide, by decide, by decide⟩, _, _, rfl, rfl, _, _, rfl, ?_⟩
      refine ⟨.int c, rfl, _, _, rfl, rfl, (by show (0 : Int) < 2305843009213693951; decide), .int i, rfl, _, _, rfl, rfl, _, _, rfl, rfl, .inl (by decide), _, _, rfl, rfl, (by show 3 ≤ sizeLine; decide), fun p np => ?_⟩
      have h0 := Int.emod_nonneg c (show (2305843009213693951 : Int) ≠ 0 by decide)
      have h1 := Int.emod_lt_of_pos c (show (0 : Int) < 2305843009213693951 by decide)
      refine q _ p (same_new np) np ⟨_, _, 0, upd_same, ?_, by omega, by omega, Int.le_refl _, Int.le_refl _⟩
      split <;> omega
end
end El
namespace El
open PySem PySem.Spec PyProof.Rows L2
section
variable {P : Program} {w : World} {K : PySem.W.Frag} {mg : Str → Option Value} {base : Heap}
abbrev s__law_one_crowd : Stmt := topS 16
abbrev N__law_one_crowd : List Str := ["pot", "last", "wide", "count", "some"]
abbrev P__law_one_crowd : List Str := ["pot", "last", "wide"]
theorem sc__law_one_crowd : FnScope N__law_one_crowd P__law_one_crowd (defScope s__law_one_crowd) := ⟨rfl, rfl, rfl, by decide +kernel, rfl, by decide +kernel, by decide +kernel⟩
theorem Pot.off {H : Hp} {b : Addr} {n : Nat} (h : Pot H b n) {z : Addr} (e : H z = none) : z ≠ b := fun y => by
  obtain ⟨_, _, _, eb, _⟩ := h.ex
  rw [y, eb] at e
  cases e
theorem Pot.mut {H : Hp} {b : Addr} {n : Nat} (h : Pot H b n) {z : Addr} {o : HO} (y : z ≠ b) : Pot (upd H z o) b n := by
  obtain ⟨x, y', t, eb, r⟩ := h.ex
  exact ⟨x, y', t, by rw [upd_ne y.symm]; exact eb, r⟩
/-- nothing vanishes, nothing but the pot changes, the pot has been drawn from so often -/
structure Dr (H : Hp) (b : Addr) (n : Nat) (H' : Hp) : Prop where
  k : Kp (fun z => z ≠ b) H H'
  v : ∀ z, H' z = none → H z = none
  t : Pot H' b n
theorem Dr.start {H : Hp} {b : Addr} {n : Nat} (h : Pot H b n) : Dr H b n H := ⟨Kp.refl, fun _ e => e, h⟩
theorem Dr.same {H H' H'' : Hp} {b : Addr} {n : Nat} (h : Dr H b n H') (s : Same H' H'') : Dr H b n H'' := ⟨h.k.trans (.of s), fun z e => h.v z (s.free e), h.t.same s⟩
theorem Dr.draw {H H' H'' : Hp} {b : Addr} {n m : Nat} (h : Dr H b n H') (k : Kp (fun z => z ≠ b) H' H'') (t : Pot H'' b m) : Dr H b m H'' := ⟨h.k.trans k, fun z e => h.v z (k.none (t.off e) e), t⟩
theorem Dr.mut {H H' : Hp} {b : Addr} {n : Nat} (h : Dr H b n H') {z : Addr} {o : HO} (e : H z = none) (hb : z ≠ b) : Dr H b n (upd H' z o) := ⟨h.k.mutF e, fun y ey => by
  by_cases hz : y = z
  · rw [hz]
    exact e
  · rw [upd_ne hz] at ey
    exact h.v y ey, h.t.mut hb⟩
theorem Dr.more {H H' : Hp} {b : Addr} {n m : Nat} (h : Dr H b n H') (k : n ≤ m) : Dr H b m H' := ⟨h.k, h.v, h.t.more k⟩
theorem Dr.off {H H' : Hp} {b : Addr} {n : Nat} (h : Dr H b n H') {z : Addr} (e : H' z = none) : z ≠ b := h.t.off e
def sp__law_one_crowd : Sp := fun vs H Q _ => ∃ (b : Addr) (n : Nat) (last wide : Int), vs = [.ref b, .int last, .int wide] ∧ Pot H b n ∧ n ≤ 900000000 ∧ 0 ≤ last ∧ 6 ≤ wide ∧ wide < 2 ^ 150 ∧
  ∀ H' (t : Addr) (c : Int × Int), Dr H b (n + 10) H' → H t = none → H' t = some (.tup [.int c.1, .int c.2]) → (1 ≤ c.1 ∧ c.1 ≤ wide) ∧ 0 ≤ c.2 ∧ c.2 ≤ wide → Q (.ref t) H'
theorem ok__law_one_crowd (A : At K mg "_law_one_crowd" P__law_one_crowd s__law_one_crowd) (B : Bi mg) (D__law_draw : Df P w K mg base 1 "_law_draw" P__law_draw s__law_draw sp__law_draw) : Df P w K mg base 2 "_law_one_crowd" P__law_one_crowd s__law_one_crowd sp__law_one_crowd := by
  refine A.df fun f fd F => F.ok sc__law_one_crowd (fun vs H Q E h => ?_) (fun cdv AA outer s H vs Q E hr h => ?_)
  · obtain ⟨_, _, _, _, rfl, _⟩ := h
    rfl
  · obtain ⟨b, n, last, wide, rfl, hT, hn, l0, w6, w1, q⟩ := h
    have nd := sc__law_one_crowd.nd
    refine ⟨_, (pss_cons (ps_set (i := 3) nd rfl (.inl rfl) (pe_op op_add pe_int (pe_df D__law_draw (hr.mono (by decide)) (by rfl) (pa_cons (pv 0) (pa_cons (pe_ix ix_list (pe_lst (pa_cons pe_int (pa_cons pe_int (pa_cons (pv 2) pa_nil)))) (pe_df D__law_draw (hr.mono (by decide)) (by rfl) (pa_cons (pv 0) (pa_cons pe_int pa_nil))) (fun _ _ => rfl)) pa_nil)))))
    (pss_cons (ps_set (i := 4) nd rfl (.inl rfl) (pe_lst (pa_cons pe_int (pa_cons (pv 1) (pa_cons (pe_op op_add (pv 1) pe_int) (pa_cons (pe_df D__law_draw (hr.mono (by decide)) (by rfl) (pa_cons (pv 0) (pa_cons pe_int pa_nil))) (pa_cons (pe_df D__law_draw (hr.mono (by decide)) (by rfl) (pa_cons (pv 0) (pa_cons pe_int pa_nil))) (pa_cons (pe_df D__law_draw (hr.mono (by decide)) (by rfl) (pa_cons (pv 0) (pa_cons (pv 2) pa_nil))) pa_nil))))))))
    (pss_one (ps_ret (pe_tup (pa_cons (pv 3) (pa_cons (pe_callB (call_min2 rfl) (by rfl) B.min (by decide +kernel) (pa_cons (pe_ix ix_list (pv 4) (pe_df D__law_draw (hr.mono (by decide)) (by rfl) (pa_cons (pv 0) (pa_cons pe_int pa_nil))) (fun _ _ => rfl)) (pa_cons (pv 2) pa_nil))) pa_nil))))))), ?_⟩
    have big : ∀ {v : Int}, v < 2 ^ 150 → v < 2 ^ 200 := fun h => Int.lt_trans h (by decide)
    -- count
    refine ⟨.ref b, rfl, .int wide, rfl, (by show 3 ≤ sizeLine; decide), fun p np => ?_⟩
    have sp := same_new (o := .lst [.int 2, .int 6, .int wide]) np
    have D0 := (Dr.start hT).same sp
    have pb : p ≠ b := hT.off np
    refine ⟨.ref b, rfl, b, _, 3, rfl, D0.t, by omega, by decide, by decide, fun H1 r1 k1 T1 r10 r11 => ?_⟩
    have D1 := D0.draw k1 T1
    obtain ⟨v, hv, v1, vw⟩ := pick3 (P := fun v => 1 ≤ v ∧ v ≤ wide) r10 r11 (a := 2) (b := 6) (c := wide) ⟨by decide, by omega⟩ ⟨by decide, by omega⟩ ⟨by omega, by omega⟩
    refine ⟨p, _, _, .int v, rfl, rfl, SqL.of (k1 _ _ pb upd_same), hv, b, _, v, rfl, T1, by omega, by omega, big (by omega), fun H2 r2 k2 T2 r20 r21 => ⟨_, _, rfl, rfl, ?_⟩⟩
    dsimp only [gName]
    have D2 := D1.draw k2 T2
    -- some
    refine ⟨.int last, rfl, .int last, rfl, _, _, rfl, rfl, .ref b, rfl, b, _, 4, rfl, T2, by omega, by decide, by decide, fun H3 r3 k3 T3 r30 r31 => ⟨.ref b, rfl, b, _, 12, rfl, T3, by omega, by decide, by decide, fun H4 r4 k4 T4 r40 r41 =>
      ⟨.ref b, rfl, .int wide, rfl, b, _, wide, rfl, T4, by omega, by omega, big w1, fun H5 r5 k5 T5 r50 r51 => ⟨(by show 6 ≤ sizeLine; decide), fun p2 np2 => ?_⟩⟩⟩⟩
    dsimp only [gName]
    have D5 := ((D2.draw k3 T3).draw k4 T4).draw k5 T5
    have s6 := same_new (o := .lst [.int 0, .int last, .int (last + 1), .int r3, .int r4, .int r5]) np2
    have D6 := D5.same s6
    have p2b : p2 ≠ b := T5.off np2
    -- the pair
    refine ⟨.int (1 + r2), rfl, .ref p2, rfl, .ref b, rfl, b, _, 6, rfl, D6.t, by omega, by decide, by decide, fun H7 r7 k7 T7 r70 r71 => ?_⟩
    have D7 := D6.draw k7 T7
    obtain ⟨u, hu, mu⟩ := at_pick (xs := [V.int 0, .int last, .int (last + 1), .int r3, .int r4, .int r5]) r70 r71
    have mu' : ∃ y : Int, u = .int y ∧ 0 ≤ y := by
      simp only [List.mem_cons, List.not_mem_nil, or_false] at mu
      rcases mu with rfl | rfl | rfl | rfl | rfl | rfl
      · exact ⟨0, rfl, by decide⟩
      · exact ⟨last, rfl, l0⟩
      · exact ⟨last + 1, rfl, by omega⟩
      · exact ⟨r3, rfl, r30⟩
      · exact ⟨r4, rfl, r40⟩
      · exact ⟨r5, rfl, r50⟩
    obtain ⟨y, rfl, y0⟩ := mu'
    refine ⟨p2, _, _, .int y, rfl, rfl, SqL.of (k7 _ _ p2b upd_same), hu, .int wide, rfl, _, _, rfl, (by show 2 ≤ sizeLine; decide), fun T nT => ?_⟩
    have sT := same_new (o := .tup [.int (1 + r2), .int (if wide < y then wide else y)]) nT
    refine q _ T (1 + r2, if wide < y then wide else y) ((D7.same sT).more (by omega)) (D7.v T nT) upd_same ⟨⟨by show 1 ≤ 1 + r2; omega, by show 1 + r2 ≤ wide; omega⟩, ?_, ?_⟩
    · show 0 ≤ if wide < y then wide else y
      split <;> omega
    · show (if wide < y then wide else y) ≤ wide
      split <;> omega
end
end El
namespace El
open PySem PySem.Spec PyProof.Rows L2
section
variable {P : Program} {w : World} {K : PySem.W.Frag} {mg : Str → Option Value} {base : Heap}
abbrev s__law_lot : Stmt := topS 17
abbrev N__law_lot : List Str := ["pot", "most", "wide", "found", "last", "turn"]
abbrev P__law_lot : List Str := ["pot", "most", "wide"]
theorem sc__law_lot : FnScope N__law_lot P__law_lot (defScope s__law_lot) := ⟨rfl, rfl, rfl, by decide +kernel, rfl, by decide +kernel, by decide +kernel⟩
/-- crowds as they are drawn -/
abbrev Lots (wide : Int) (cs : List (Int × Int)) : Prop := ∀ c ∈ cs, (1 ≤ c.1 ∧ c.1 ≤ wide) ∧ 0 ≤ c.2 ∧ c.2 ≤ wide
theorem off_tops {H : Hp} {B : Addr → Prop} {a : Addr} {ts : List Addr} {gs : List (Int × Int)} (h : GsAt H B a ts gs) : a ∉ ts := fun m => by
  obtain ⟨i, e⟩ := List.mem_iff_getElem?.mp m
  have hl := at_lt e
  rw [h.len] at hl
  obtain ⟨g, eg⟩ := at_some hl
  have e1 := h.at' i a g e eg
  rw [h.top] at e1
  cases e1
def sp__law_lot : Sp := fun vs H Q _ => ∃ (b : Addr) (n : Nat) (most wide : Int), vs = [.ref b, .int most, .int wide] ∧ Pot H b n ∧ n ≤ 800000000 ∧ 0 ≤ most ∧ most ≤ 50 ∧ 6 ≤ wide ∧ wide < 2 ^ 150 ∧
  ∀ H' q us cs, Dr H b (n + 600) H' → GsAt H' (fun z => H z = none) q us cs → (cs.length : Int) ≤ most → Lots wide cs → Q (.ref q) H'
theorem ok__law_lot (A : At K mg "_law_lot" P__law_lot s__law_lot) (B : Bi mg) (D__law_draw : Df P w K mg base 1 "_law_draw" P__law_draw s__law_draw sp__law_draw) (D__law_one_crowd : Df P w K mg base 2 "_law_one_crowd" P__law_one_crowd s__law_one_crowd sp__law_one_crowd) : Df P w K mg base 3 "_law_lot" P__law_lot s__law_lot sp__law_lot := by
  refine A.df fun f fd F => F.ok sc__law_lot (fun vs H Q E h => ?_) (fun cdv AA outer s H vs Q E hr h => ?_)
  · obtain ⟨_, _, _, _, rfl, _⟩ := h
    rfl
  · obtain ⟨b, n, most, wide, rfl, hT, hn, m0, m50, w6, w1, q⟩ := h
    have nd := sc__law_lot.nd
    refine ⟨_, (pss_cons (ps_set (i := 3) nd rfl (.inl rfl) (pe_lst pa_nil))
    (pss_cons (ps_set (i := 4) nd rfl (.inl rfl) pe_int)
    (pss_cons (ps_for PassesOwn.never rfl (pi_range1 (by rfl) B.range (pa_cons (pe_df D__law_draw (hr.mono (by decide)) (by rfl) (pa_cons (pv 0) (pa_cons (pe_op op_add (pv 1) pe_int) pa_nil))) pa_nil)) (pg_name (i := 5) nd rfl (.inl rfl)) (pss_cons (ps_expr (pe_bm PySem.F.plainAttrs_list PySem.F.slot_list_append PySem.F.type_list_append mt_append (pv 3) (pa_cons (pe_df D__law_one_crowd (hr.mono (by decide)) (by rfl) (pa_cons (pv 0) (pa_cons (pv 4) (pa_cons (pv 2) pa_nil)))) pa_nil))) (pss_one (ps_set (i := 4) nd rfl (.inl rfl) (pe_ix ix_tup (pe_ix ix_list (pv 3) (pe_un un_neg pe_int) (fun _ _ => rfl)) pe_int (fun _ _ => rfl))))))
    (pss_one (ps_ret (pv 3)))))), ?_⟩
    refine ⟨Nat.zero_le _, fun fo nfo => ?_⟩
    have s1 := same_new (o := .lst []) nfo
    have nfb : fo ≠ b := hT.off nfo
    dsimp only [gName]
    refine seq_set ?_
    refine seq_to (fun σ H2 => ∃ y4 y5 us cs, σ = [some (.ref b), some (.int most), some (.int wide), some (.ref fo), y4, y5] ∧ Dr H b (n + 600) H2 ∧ GsAt H2 (fun z => H z = none) fo us cs ∧ (cs.length : Int) ≤ most ∧ Lots wide cs) (fun X hX => ?_) (fun σ H2 hE => ?_)
    · refine ⟨.ref b, rfl, .int most, rfl, _, _, rfl, rfl, b, n, _, rfl, hT.same s1, by omega, by omega, Int.lt_of_le_of_lt (show most + 1 ≤ 51 by omega) (by decide), fun Hd r kd Td r0 r1 => ⟨_, rfl, by omega, by omega, ?_⟩⟩
      refine for_it walk_range (fun k σ H2 => ∃ last y5 us cs, σ = [some (.ref b), some (.int most), some (.int wide), some (.ref fo), some (.int last), y5] ∧ 0 ≤ last ∧ Dr H b (n + 1 + 10 * k) H2 ∧ GsAt H2 (fun z => H z = none) fo us cs ∧ cs.length = k ∧ Lots wide cs)
        ⟨0, _, [], [], rfl, Int.le_refl _, ((Dr.start hT).same s1).draw kd Td, ⟨kd _ _ nfb upd_same, nfo, rfl, fun i t g e _ => by simp at e, fun t m => (List.not_mem_nil m).elim⟩, rfl, fun c m => (List.not_mem_nil m).elim⟩ (fun _ _ _ _ _ => trivial) (fun k v σ H2 H3 hk hW hY => ?_) (fun σ H2 hW => ?_)
      · obtain ⟨last, y5, us, cs, rfl, l0, D2, G2, lcs, hcs⟩ := hW
        obtain ⟨rfl, rfl⟩ := hY
        have hk50 : k < 51 := by omega
        refine ⟨.ref fo, rfl, .inl ⟨rfl, _, G2.seq⟩, .ref b, rfl, .int last, rfl, .int wide, rfl, b, _, last, wide, rfl, D2.t, by omega, l0, w6, w1, fun Hc T c Dc nT eT hc => ?_⟩
        have nF : ∀ z, H z = none → z ≠ b := fun z e => hT.off e
        have Gc := G2.keep (Dc.k.weak nF)
        have Dc' := D2.draw Dc.k Dc.t
        have nT0 : H T = none := D2.v T nT
        have hD : fo ∉ us := off_tops Gc
        have Tfo : T ≠ fo := fun z => by rw [z, G2.top] at nT; cases nT
        refine ⟨fo, _, .ref T, rfl, rfl, Gc.top, ils (by rw [List.length_map, Gc.len]; omega), ?_⟩
        have GF := Gc.push hD (q := T) (g := c) eT nT0
        have DF : Dr H b (n + 1 + 10 * k + 10) (upd Hc fo (.lst (us.map V.ref ++ [.ref T]))) := Dc'.mut nfo nfb
        refine ⟨.ref fo, rfl, 1, rfl, fo, _, -1, .ref T, rfl, rfl, SqL.of upd_same, atI_last _ _, T, _, 1, .int c.2, rfl, rfl, SqT.of ((upd_ne Tfo).trans eT), rfl, ?_⟩
        refine ⟨c.2, _, us ++ [T], cs ++ [c], rfl, hc.2.1, DF.more (by omega), GF, by rw [List.length_append, lcs]; rfl, fun x m => ?_⟩
        rcases List.mem_append.mp m with m | m
        · exact hcs x m
        · rw [List.mem_singleton.mp m]
          exact hc
      · obtain ⟨last, y5, us, cs, rfl, l0, D2, G2, lcs, hcs⟩ := hW
        exact hX _ _ ⟨_, _, us, cs, rfl, D2.more (by omega), G2, by omega, hcs⟩
    · obtain ⟨y4, y5, us, cs, rfl, D2, G2, lcs, hcs⟩ := hE
      exact ⟨_, rfl, q H2 fo us cs D2 G2 lcs hcs⟩
end
end El
namespace El
open PySem PySem.Spec PyProof.Rows L2
/-- [x for x in A if f(x)] -/
theorem lc_sel {K : PySem.W.Frag} {a D : Addr} {A : List Int} {i : Nat} {tt : TT} {te : TE} {vs : List Nat} {σ : L2.St} {H1 : Hp} {Qd : Hp → Prop} (f : Int → Bool) (hA : H1 a = some (.lst (A.map V.int))) (hD : H1 D = none) (hl : A.length ≤ 1000)
    (ht : ∀ (z : Int) (H' : Hp) (Q : Bool → Hp → Prop), Q (f z) H' → tt ((wipe σ vs).set i (some (.int z))) H' Q)
    (he : ∀ (z : Int) (H' : Hp) (Q : VK), Q (.int z) H' → te ((wipe σ vs).set i (some (.int z))) H' Q) (hw : ∀ z : Int, wipe ((wipe σ vs).set i (some (.int z))) vs = wipe σ vs)
    (hd : ∀ H2, Same H1 H2 → H2 D = some (.lst ((A.filter f).map V.int)) → Qd H2) :
    ∃ W : Nat → Nat → Hp → Prop, (∃ m, W 0 m (upd H1 D (.lst []))) ∧ ∀ k m H, W k m H →
      ((Itl K a).stop k H ∧ Qd H) ∨ ((Itl K a).go k H ∧ ∃ Nx : Hp → Prop, (∀ H', Nx H' → ∃ m', m' < m ∧ W (k + 1) m' H') ∧ ∀ x H', (Itl K a).yld k H x H' → gName i x (wipe σ vs) H' fun σ2 H2 => wipe σ2 vs = wipe σ vs ∧ tt σ2 H2 fun b H3 =>
        if b = true then te σ2 H3 fun y H4 => ∃ acc, H4 D = some (.lst acc) ∧ acc.length < sizeLine ∧ Nx (upd H4 D (.lst (acc ++ [y]))) else Nx H3) := by
  refine lc_it (walk_list (xs := A.map V.int)) (fun k H2 => Same H1 H2 ∧ H2 D = some (.lst (((A.take k).filter f).map V.int))) ⟨same_new hD, upd_same⟩ (fun k H2 _ hW => SqL.of (hW.1 _ _ hA)) (fun k x H2 H3 hk hW hY => ?_) (fun H2 hW => ?_)
  · obtain ⟨sm, e⟩ := hW
    obtain ⟨rfl, hx⟩ := hY
    obtain ⟨z, ez, rfl⟩ := ints_at hx
    refine ⟨hw z, ht z H3 _ ?_⟩
    have hlb : ((A.take k).filter f).length ≤ 1000 := by
      refine Nat.le_trans (List.length_filter_le _ _) ?_
      rw [List.length_take]
      omega
    have es : (A.take (k + 1)).filter f = (A.take k).filter f ++ if f z = true then [z] else [] := by
      rw [take_snoc ez, List.filter_append, List.filter_cons, List.filter_nil]
    split
    · rename_i hb
      refine he z H3 _ ⟨_, e, ils (by rw [List.length_map]; omega), Same.mut sm hD, ?_⟩
      rw [upd_same, es, if_pos hb, List.map_append]
      rfl
    · rename_i hb
      refine ⟨sm, ?_⟩
      rw [es, if_neg hb, List.append_nil]
      exact e
  · obtain ⟨sm, e⟩ := hW
    rw [List.length_map, List.take_length] at e
    exact hd H2 sm e
/-- the same, where the test may make something -/
theorem lc_selG {K : PySem.W.Frag} {a D : Addr} {A : List Int} {i : Nat} {tt : TT} {te : TE} {vs : List Nat} {σ : L2.St} {H1 : Hp} {Qd : Hp → Prop} (f : Int → Bool) (hA : H1 a = some (.lst (A.map V.int))) (hD : H1 D = none) (hl : A.length ≤ 1000)
    (ht : ∀ (z : Int) (H' : Hp) (Q : Bool → Hp → Prop), Same H1 H' → (∀ H'', Same H' H'' → Q (f z) H'') → tt ((wipe σ vs).set i (some (.int z))) H' Q)
    (he : ∀ (z : Int) (H' : Hp) (Q : VK), Q (.int z) H' → te ((wipe σ vs).set i (some (.int z))) H' Q) (hw : ∀ z : Int, wipe ((wipe σ vs).set i (some (.int z))) vs = wipe σ vs)
    (hd : ∀ H2, Same H1 H2 → H2 D = some (.lst ((A.filter f).map V.int)) → Qd H2) :
    ∃ W : Nat → Nat → Hp → Prop, (∃ m, W 0 m (upd H1 D (.lst []))) ∧ ∀ k m H, W k m H →
      ((Itl K a).stop k H ∧ Qd H) ∨ ((Itl K a).go k H ∧ ∃ Nx : Hp → Prop, (∀ H', Nx H' → ∃ m', m' < m ∧ W (k + 1) m' H') ∧ ∀ x H', (Itl K a).yld k H x H' → gName i x (wipe σ vs) H' fun σ2 H2 => wipe σ2 vs = wipe σ vs ∧ tt σ2 H2 fun b H3 =>
        if b = true then te σ2 H3 fun y H4 => ∃ acc, H4 D = some (.lst acc) ∧ acc.length < sizeLine ∧ Nx (upd H4 D (.lst (acc ++ [y]))) else Nx H3) := by
  refine lc_it (walk_list (xs := A.map V.int)) (fun k H2 => Same H1 H2 ∧ H2 D = some (.lst (((A.take k).filter f).map V.int))) ⟨same_new hD, upd_same⟩ (fun k H2 _ hW => SqL.of (hW.1 _ _ hA)) (fun k x H2 H3 hk hW hY => ?_) (fun H2 hW => ?_)
  · obtain ⟨sm, e⟩ := hW
    obtain ⟨rfl, hx⟩ := hY
    obtain ⟨z, ez, rfl⟩ := ints_at hx
    refine ⟨hw z, ht z H3 _ sm fun H4 s4 => ?_⟩
    have hlb : ((A.take k).filter f).length ≤ 1000 := by
      refine Nat.le_trans (List.length_filter_le _ _) ?_
      rw [List.length_take]
      omega
    have es : (A.take (k + 1)).filter f = (A.take k).filter f ++ if f z = true then [z] else [] := by
      rw [take_snoc ez, List.filter_append, List.filter_cons, List.filter_nil]
    split
    · rename_i hb
      refine he z H4 _ ⟨_, s4 _ _ e, ils (by rw [List.length_map]; omega), Same.mut (sm.trans s4) hD, ?_⟩
      rw [upd_same, es, if_pos hb, List.map_append]
      rfl
    · rename_i hb
      refine ⟨sm.trans s4, ?_⟩
      rw [es, if_neg hb, List.append_nil]
      exact s4 _ _ e
  · obtain ⟨sm, e⟩ := hW
    rw [List.length_map, List.take_length] at e
    exact hd H2 sm e
end El
namespace El
open PySem PySem.Spec PyProof.Rows L2
/-- [x for x in d if f(x)], over the keys of a dict that is locked -/
theorem lc_keysF {a D : Addr} {od : Obj} {gs : List (Int × Int)} {i : Nat} {tt : TT} {te : TE} {vs : List Nat} {σ : L2.St} {H1 : Hp} {Qd : Hp → Prop} (f : Int → Bool) (hA : H1 a = some (.frz od (.dK (pks gs)))) (hD : H1 D = none) (hl : gs.length ≤ 1000)
    (ht : ∀ (g : Int × Int) (H' : Hp) (Q : Bool → Hp → Prop), g ∈ gs → Same H1 H' → Q (f g.1) H' → tt ((wipe σ vs).set i (some (.int g.1))) H' Q)
    (he : ∀ (z : Int) (H' : Hp) (Q : VK), Q (.int z) H' → te ((wipe σ vs).set i (some (.int z))) H' Q) (hw : ∀ z : Int, wipe ((wipe σ vs).set i (some (.int z))) vs = wipe σ vs)
    (hd : ∀ H2, Same H1 H2 → H2 D = some (.lst (((gs.map (·.1)).filter f).map V.int)) → Qd H2) :
    ∃ W : Nat → Nat → Hp → Prop, (∃ m, W 0 m (upd H1 D (.lst []))) ∧ ∀ k m H, W k m H →
      ((Itk a od (pks gs)).stop k H ∧ Qd H) ∨ ((Itk a od (pks gs)).go k H ∧ ∃ Nx : Hp → Prop, (∀ H', Nx H' → ∃ m', m' < m ∧ W (k + 1) m' H') ∧ ∀ x H', (Itk a od (pks gs)).yld k H x H' → gName i x (wipe σ vs) H' fun σ2 H2 => wipe σ2 vs = wipe σ vs ∧ tt σ2 H2 fun b H3 =>
        if b = true then te σ2 H3 fun y H4 => ∃ acc, H4 D = some (.lst acc) ∧ acc.length < sizeLine ∧ Nx (upd H4 D (.lst (acc ++ [y]))) else Nx H3) := by
  refine lc_it (walk_keys (kvs := pks gs)) (fun k H2 => Same H1 H2 ∧ H2 D = some (.lst ((((gs.take k).map (·.1)).filter f).map V.int))) ⟨same_new hD, upd_same⟩ (fun k H2 _ hW => hW.1 _ _ hA) (fun k x H2 H3 hk hW hY => ?_) (fun H2 hW => ?_)
  · obtain ⟨sm, e⟩ := hW
    obtain ⟨rfl, kk, v, ekv, rfl⟩ := hY
    rw [pks_len] at hk
    obtain ⟨g, eg⟩ := at_some hk
    have ep : (pks gs)[k]? = some ((Sum.inl g.1 : L2.Key), V.int g.2) := by
      rw [show pks gs = gs.map fun g => ((Sum.inl g.1 : L2.Key), V.int g.2) from rfl, List.getElem?_map, eg]
      rfl
    rw [ep] at ekv
    obtain ⟨rfl, rfl⟩ := Prod.mk.inj (Option.some.inj ekv)
    refine ⟨hw g.1, ht g H3 _ (List.mem_of_getElem? eg) sm ?_⟩
    have hlb : (((gs.take k).map (·.1)).filter f).length ≤ 1000 := by
      refine Nat.le_trans (List.length_filter_le _ _) ?_
      rw [List.length_map, List.length_take]
      omega
    have es : ((gs.take (k + 1)).map (·.1)).filter f = ((gs.take k).map (·.1)).filter f ++ if f g.1 = true then [g.1] else [] := by
      rw [take_snoc eg, List.map_append, List.filter_append, List.map_cons, List.map_nil, List.filter_cons, List.filter_nil]
    split
    · rename_i hb
      refine he g.1 H3 _ ⟨_, e, ils (by rw [List.length_map]; omega), Same.mut sm hD, ?_⟩
      rw [upd_same, es, if_pos hb, List.map_append]
      rfl
    · rename_i hb
      refine ⟨sm, ?_⟩
      rw [es, if_neg hb, List.append_nil]
      exact e
  · obtain ⟨sm, e⟩ := hW
    rw [pks_len, List.take_length] at e
    exact hd H2 sm e
end El
namespace El
/-! ### rooms gone through: each keeps as many of each crowd as bear it there, like ones at once -/
/-- how many of a crowd stay in a room in which h live -/
def st1 (h : Int) (d : Int × Int) : Int := max 0 (min d.1 (d.2 + 1 - h))
def stv : Int → List (Int × Int) → List Int
  | _, [] => []
  | h, d :: ds => st1 h d :: stv (h + st1 h d) ds
/-- who is left behind m such rooms -/
def nxt : Int → Int → List (Int × Int) → List (Int × Int)
  | _, _, [] => []
  | h, m, d :: ds => (d.1 - m * st1 h d, d.2) :: nxt (h + st1 h d) m ds
def okm : Int → Int → List (Int × Int) → Prop
  | _, _, [] => True
  | h, m, d :: ds => m * st1 h d ≤ d.1 ∧ okm (h + st1 h d) m ds
def Nng (ds : List (Int × Int)) : Prop := ∀ d ∈ ds, 0 ≤ d.1 ∧ 0 ≤ d.2
def tot (ds : List (Int × Int)) : Int := (ds.map (·.1)).sum
def fld (ds : List (Int × Int)) (L : List Int) : List Int := ds.foldl (fun L c => sitN c.2 c.1.toNat L) L
theorem st1_nn (h : Int) (d : Int × Int) : 0 ≤ st1 h d := by
  unfold st1
  omega
theorem st1_le (h : Int) {d : Int × Int} (hd : 0 ≤ d.1) : st1 h d ≤ d.1 := by
  unfold st1
  omega
theorem stv_cons (h : Int) (d : Int × Int) (ds : List (Int × Int)) : stv h (d :: ds) = st1 h d :: stv (h + st1 h d) ds := rfl
theorem nxt_cons (h m : Int) (d : Int × Int) (ds : List (Int × Int)) : nxt h m (d :: ds) = (d.1 - m * st1 h d, d.2) :: nxt (h + st1 h d) m ds := rfl
theorem okm_cons (h m : Int) (d : Int × Int) (ds : List (Int × Int)) : okm h m (d :: ds) = (m * st1 h d ≤ d.1 ∧ okm (h + st1 h d) m ds) := rfl
theorem stv_len : ∀ (ds : List (Int × Int)) (h : Int), (stv h ds).length = ds.length
  | [], _ => rfl
  | d :: ds, h => congrArg (· + 1) (stv_len ds _)
theorem nxt_len : ∀ (ds : List (Int × Int)) (h m : Int), (nxt h m ds).length = ds.length
  | [], _, _ => rfl
  | d :: ds, h, m => congrArg (· + 1) (nxt_len ds _ m)
theorem nxt_snd : ∀ (ds : List (Int × Int)) (h m : Int), (nxt h m ds).map (·.2) = ds.map (·.2)
  | [], _, _ => rfl
  | d :: ds, h, m => congrArg (d.2 :: ·) (nxt_snd ds _ m)
theorem nxt_0 : ∀ (ds : List (Int × Int)) (h : Int), nxt h 0 ds = ds
  | [], _ => rfl
  | d :: ds, h => by
    rw [nxt_cons, Int.zero_mul, Int.sub_zero, nxt_0 ds]
theorem nxt_nng : ∀ {ds : List (Int × Int)} {h m : Int}, Nng ds → okm h m ds → Nng (nxt h m ds)
  | [], _, _, _, _ => fun d m => (List.not_mem_nil m).elim
  | d :: ds, h, m, n, o => fun x mx => by
    rw [nxt_cons] at mx
    obtain ⟨o1, o2⟩ := o
    rcases List.mem_cons.mp mx with rfl | mx
    · exact ⟨by show 0 ≤ d.1 - m * st1 h d; omega, (n d List.mem_cons_self).2⟩
    · exact nxt_nng (fun x m => n x (List.mem_cons_of_mem _ m)) o2 x mx
theorem okm_less : ∀ {ds : List (Int × Int)} {h m k : Int}, k ≤ m → okm h m ds → okm h k ds
  | [], _, _, _, _, _ => trivial
  | d :: ds, h, m, k, hk, o => ⟨Int.le_trans (Int.mul_le_mul_of_nonneg_right hk (st1_nn h d)) o.1, okm_less hk o.2⟩
theorem st1_again {h k : Int} {d : Int × Int} (hk : 0 ≤ k) (o : (k + 1) * st1 h d ≤ d.1) : st1 h (d.1 - k * st1 h d, d.2) = st1 h d := by
  rw [Int.add_mul, Int.one_mul] at o
  have hm : 0 ≤ k * st1 h d := Int.mul_nonneg hk (st1_nn h d)
  generalize hq : k * st1 h d = q at o hm ⊢
  have hz : st1 h d = 0 → q = 0 := fun e => by rw [← hq, e, Int.mul_zero]
  unfold st1 at o hz ⊢
  show max 0 (min (d.1 - q) (d.2 + 1 - h)) = max 0 (min d.1 (d.2 + 1 - h))
  by_cases c : max 0 (min d.1 (d.2 + 1 - h)) = 0
  · have := hz c
    omega
  · omega
/-- the rooms of one block are alike -/
theorem alike_on : ∀ {ds : List (Int × Int)} {h k : Int}, 0 ≤ k → okm h (k + 1) ds → stv h (nxt h k ds) = stv h ds ∧ nxt h 1 (nxt h k ds) = nxt h (k + 1) ds ∧ okm h 1 (nxt h k ds)
  | [], _, _, _, _ => ⟨rfl, rfl, trivial⟩
  | d :: ds, h, k, hk, o => by
    have e := st1_again hk o.1
    obtain ⟨i1, i2, i3⟩ := alike_on hk o.2
    rw [nxt_cons, nxt_cons, nxt_cons, stv_cons, stv_cons, okm_cons, e]
    have o1 := o.1
    rw [Int.add_mul, Int.one_mul] at o1
    refine ⟨by rw [i1], ?_, by rw [Int.one_mul]; show st1 h d ≤ d.1 - k * st1 h d; omega, i3⟩
    rw [i2, Int.one_mul, Int.add_mul, Int.one_mul]
    congr 1
    show (d.1 - k * st1 h d - st1 h d, d.2) = _
    congr 1
    omega
theorem fld_step : ∀ {ds : List (Int × Int)} {h : Int} {L : List Int}, Nng ds → fld ds (h :: L) = (h + (stv h ds).sum) :: fld (nxt h 1 ds) L
  | [], h, L, _ => by
    show h :: L = (h + 0) :: L
    rw [Int.add_zero]
  | d :: ds, h, L, n => by
    have nd := n d List.mem_cons_self
    have e1 : min ((d.1.toNat : Nat) : Int) (plc h d.2) = st1 h d := by
      unfold plc st1
      omega
    show fld ds (sitN d.2 d.1.toNat (h :: L)) = _
    rw [sitN_cons, e1, fld_step fun x m => n x (List.mem_cons_of_mem _ m)]
    rw [stv_cons, nxt_cons, List.sum_cons, Int.one_mul, show d.1.toNat - (st1 h d).toNat = (d.1 - st1 h d).toNat by have := st1_nn h d; omega, Int.add_assoc]
    rfl
theorem tot_cons (d : Int × Int) (ds : List (Int × Int)) : tot (d :: ds) = d.1 + tot ds := List.sum_cons
theorem tot_nn : ∀ {ds : List (Int × Int)}, Nng ds → 0 ≤ tot ds
  | [], _ => Int.le_refl _
  | d :: ds, n => by
    have h1 := (n d List.mem_cons_self).1
    have h2 := tot_nn fun x m => n x (List.mem_cons_of_mem _ m)
    rw [tot_cons]
    omega
theorem fld_none : ∀ {ds : List (Int × Int)}, Nng ds → tot ds = 0 → ∀ L, fld ds L = L
  | [], _, _, _ => rfl
  | d :: ds, n, t, L => by
    have h1 := (n d List.mem_cons_self).1
    have nn : Nng ds := fun x m => n x (List.mem_cons_of_mem _ m)
    have h2 := tot_nn nn
    rw [tot_cons] at t
    show fld ds (sitN d.2 d.1.toNat L) = L
    rw [show d.1.toNat = 0 by omega]
    exact fld_none nn (by omega) L
/-- the first of all opens the first room -/
theorem fld_open : ∀ {ds : List (Int × Int)}, Nng ds → 0 < tot ds → fld ds [] = fld ds [0]
  | [], _, t => absurd t (by decide)
  | d :: ds, n, t => by
    have hd := n d List.mem_cons_self
    have nn : Nng ds := fun x m => n x (List.mem_cons_of_mem _ m)
    show fld ds (sitN d.2 d.1.toNat []) = fld ds (sitN d.2 d.1.toNat [0])
    by_cases c : d.1 = 0
    · rw [tot_cons, c] at t
      rw [c]
      exact fld_open nn (by omega)
    · obtain ⟨k, hk⟩ : ∃ k, d.1.toNat = k + 1 := ⟨d.1.toNat - 1, by omega⟩
      rw [hk]
      show fld ds (sitN d.2 k (sit d.2 [])) = fld ds (sitN d.2 k (sit d.2 [0]))
      have e : sit d.2 [0] = sit d.2 [] := by
        unfold sit
        rw [if_pos hd.2]
        rfl
      rw [e]
theorem fld_room {ds : List (Int × Int)} (n : Nng ds) (t : 0 < tot ds) : fld ds [] = (stv 0 ds).sum :: fld (nxt 0 1 ds) [] := by
  rw [fld_open n t, fld_step n, Int.zero_add]
theorem stv_none : ∀ {ds : List (Int × Int)} {h : Int}, Nng ds → tot ds = 0 → (stv h ds).sum = 0
  | [], _, _, _ => rfl
  | d :: ds, h, n, t => by
    have h1 := (n d List.mem_cons_self).1
    have nn : Nng ds := fun x m => n x (List.mem_cons_of_mem _ m)
    have h2 := tot_nn nn
    rw [tot_cons] at t
    have e : st1 h d = 0 := by
      unfold st1
      omega
    rw [stv_cons, List.sum_cons, e, stv_none nn (by omega)]
    rfl
theorem stv_nn : ∀ (ds : List (Int × Int)) (h : Int), ∀ s ∈ stv h ds, 0 ≤ s
  | d :: ds, h, s, m => by
    rw [stv_cons] at m
    rcases List.mem_cons.mp m with rfl | m
    · exact st1_nn h d
    · exact stv_nn ds _ s m
theorem sum_nn : ∀ {L : List Int}, (∀ s ∈ L, 0 ≤ s) → 0 ≤ L.sum
  | [], _ => Int.le_refl _
  | s :: L, h => by
    have h1 := h s List.mem_cons_self
    have h2 := sum_nn fun x m => h x (List.mem_cons_of_mem _ m)
    rw [List.sum_cons]
    omega
/-- where some are left, some stay -/
theorem stv_some : ∀ {ds : List (Int × Int)}, Nng ds → 0 < tot ds → 0 < (stv 0 ds).sum
  | [], _, t => absurd t (by decide)
  | d :: ds, n, t => by
    have hd := n d List.mem_cons_self
    have nn : Nng ds := fun x m => n x (List.mem_cons_of_mem _ m)
    rw [tot_cons] at t
    rw [stv_cons, List.sum_cons]
    by_cases c : d.1 = 0
    · have e : st1 0 d = 0 := by
        unfold st1
        omega
      rw [e, Int.zero_add, Int.zero_add]
      exact stv_some nn (by omega)
    · have e : 0 < st1 0 d := by
        unfold st1
        omega
      have := sum_nn (stv_nn ds (0 + st1 0 d))
      omega
theorem nxt_tot : ∀ {ds : List (Int × Int)} {h m : Int}, tot (nxt h m ds) = tot ds - m * (stv h ds).sum
  | [], _, m => by
    show (0 : Int) = 0 - m * 0
    rw [Int.mul_zero]
    rfl
  | d :: ds, h, m => by
    rw [nxt_cons, stv_cons, tot_cons, tot_cons, List.sum_cons, nxt_tot, Int.mul_add]
    show d.1 - m * st1 h d + _ = _
    omega
theorem sum_le : ∀ {ds : List (Int × Int)} {h : Int}, okm h 1 ds → (stv h ds).sum ≤ tot ds
  | [], _, _ => Int.le_refl _
  | d :: ds, h, o => by
    have h1 := o.1
    have h2 := sum_le o.2
    rw [stv_cons, List.sum_cons, tot_cons]
    rw [Int.one_mul] at h1
    omega
/-- one block -/
theorem fld_block {ds : List (Int × Int)} (n : Nng ds) (t : 0 < tot ds) : ∀ {k : Nat}, okm 0 k ds → fld ds [] = List.replicate k (stv 0 ds).sum ++ fld (nxt 0 k ds) []
  | 0, _ => by
    rw [show ((0 : Nat) : Int) = 0 from rfl, nxt_0]
    rfl
  | k + 1, o => by
    have o' : okm 0 ((k : Int) + 1) ds := o
    have ok := okm_less (k := (k : Int)) (by omega) o'
    obtain ⟨a1, a2, a3⟩ := alike_on (Int.natCast_nonneg k) o'
    have n2 := nxt_nng n ok
    have t2 : 0 < tot (nxt 0 k ds) := by
      have := sum_le a3
      rw [a1] at this
      have := stv_some n t
      omega
    rw [fld_block n t ok, fld_room n2 t2, a1, a2, List.replicate_succ', List.append_assoc]
    rfl
/-! ### two blocks at most for each crowd -/
def wg (h : Int) (d : Int × Int) : Nat := if d.1 ≤ 0 then 0 else if d.1 ≤ d.2 + 1 - h then 1 else 2
def phi : Int → List (Int × Int) → Nat
  | _, [] => 0
  | h, d :: ds => wg h d + phi (h + st1 h d) ds
/-- one of the crowds has not enough left for one more such room -/
def hit : Int → Int → List (Int × Int) → Prop
  | _, _, [] => False
  | h, m, d :: ds => (0 < st1 h d ∧ d.1 - m * st1 h d < st1 h d) ∨ hit (h + st1 h d) m ds
theorem phi_top : ∀ (ds : List (Int × Int)) (h : Int), phi h ds ≤ 2 * ds.length
  | [], _ => Nat.le_refl _
  | d :: ds, h => by
    have h1 := phi_top ds (h + st1 h d)
    have h2 : wg h d ≤ 2 := by
      unfold wg
      split
      · decide
      · split <;> decide
    show wg h d + phi _ ds ≤ 2 * (ds.length + 1)
    omega
theorem wg_down {h h' m : Int} {d : Int × Int} (hh : h' ≤ h) (hm : 1 ≤ m) (hd : 0 ≤ d.1) (o : m * st1 h d ≤ d.1) :
    wg h' (d.1 - m * st1 h d, d.2) ≤ wg h d ∧ (0 < st1 h d ∧ d.1 - m * st1 h d < st1 h d → wg h' (d.1 - m * st1 h d, d.2) < wg h d) ∧ h' + st1 h' (d.1 - m * st1 h d, d.2) ≤ h + st1 h d := by
  have hs := st1_nn h d
  have hq : st1 h d ≤ m * st1 h d := by
    have := Int.mul_le_mul_of_nonneg_right hm hs
    rw [Int.one_mul] at this
    exact this
  generalize m * st1 h d = q at o hq ⊢
  unfold wg
  unfold st1 at hq hs ⊢
  dsimp only
  refine ⟨?_, fun hi => ?_, ?_⟩
  · split <;> split <;> (try split) <;> (try split) <;> omega
  · split <;> split <;> (try split) <;> (try split) <;> omega
  · omega
theorem phi_down : ∀ {ds : List (Int × Int)} {h h' m : Int}, h' ≤ h → 1 ≤ m → Nng ds → okm h m ds → phi h' (nxt h m ds) ≤ phi h ds ∧ (hit h m ds → phi h' (nxt h m ds) < phi h ds)
  | [], _, _, _, _, _, _, _ => ⟨Nat.le_refl _, fun h => h.elim⟩
  | d :: ds, h, h', m, hh, hm, n, o => by
    obtain ⟨w1, w2, w3⟩ := wg_down hh hm (n d List.mem_cons_self).1 o.1
    obtain ⟨i1, i2⟩ := phi_down (ds := ds) w3 hm (fun x mx => n x (List.mem_cons_of_mem _ mx)) o.2
    show wg h' _ + phi _ _ ≤ wg h d + phi _ ds ∧ (_ → wg h' _ + phi _ _ < wg h d + phi _ ds)
    refine ⟨Nat.add_le_add w1 i1, fun k => ?_⟩
    rcases k with k | k
    · exact Nat.add_lt_add_of_lt_of_le (w2 k) i1
    · exact Nat.add_lt_add_of_le_of_lt w1 (i2 k)
end El
namespace El
/-! ### the blocks of alike rooms, one after another -/
inductive BlkTo (cs : List (Int × Int)) : List (Int × List Int) → List (Int × Int) → Prop
  | none : BlkTo cs [] cs
  | more {bl : List (Int × List Int)} {ds : List (Int × Int)} {m : Int} : BlkTo cs bl ds → 0 < tot ds → 1 ≤ m → okm 0 m ds → BlkTo cs (bl ++ [(m, stv 0 ds)]) (nxt 0 m ds)
variable {cs ds : List (Int × Int)} {bl : List (Int × List Int)}
theorem BlkTo.nng (n : Nng cs) (h : BlkTo cs bl ds) : Nng ds := by
  induction h with
  | none => exact n
  | more _ _ _ o i => exact nxt_nng i o
theorem BlkTo.len (h : BlkTo cs bl ds) : ds.length = cs.length := by
  induction h with
  | none => rfl
  | more _ _ _ _ i => rw [nxt_len, i]
theorem BlkTo.snd (h : BlkTo cs bl ds) : ds.map (·.2) = cs.map (·.2) := by
  induction h with
  | none => rfl
  | more _ _ _ _ i => rw [nxt_snd, i]
theorem nxt_at : ∀ {ds : List (Int × Int)} {h m : Int} {i : Nat} {d : Int × Int} {s : Int}, ds[i]? = some d → (stv h ds)[i]? = some s → (nxt h m ds)[i]? = some (d.1 - m * s, d.2)
  | d :: ds, h, m, 0, _, _, e, f => by
    obtain rfl := Option.some.inj e
    obtain rfl := Option.some.inj f
    rfl
  | d :: ds, h, m, i + 1, _, _, e, f => nxt_at (ds := ds) (h := h + st1 h d) (i := i) e f
theorem stv_at : ∀ {ds : List (Int × Int)} {h : Int} {i : Nat} {d : Int × Int}, ds[i]? = some d → (stv h ds)[i]? = some (st1 (h + ((stv h ds).take i).sum) d)
  | d :: ds, h, 0, _, e => by
    obtain rfl := Option.some.inj e
    show some (st1 h d) = some (st1 (h + 0) d)
    rw [Int.add_zero]
  | d :: ds, h, i + 1, d', e => by
    have := stv_at (ds := ds) (h := h + st1 h d) (i := i) (d := d') e
    show (stv (h + st1 h d) ds)[i]? = some (st1 (h + (st1 h d + ((stv (h + st1 h d) ds).take i).sum)) d')
    rw [this, Int.add_assoc]
theorem st_le_at {ds : List (Int × Int)} {h : Int} {i : Nat} {d : Int × Int} {s : Int} (n : Nng ds) (e : ds[i]? = some d) (f : (stv h ds)[i]? = some s) : 0 ≤ s ∧ s ≤ d.1 := by
  rw [stv_at e] at f
  obtain rfl := Option.some.inj f
  exact ⟨st1_nn _ _, st1_le _ (n d (List.mem_of_getElem? e)).1⟩
theorem okm_at : ∀ {ds : List (Int × Int)} {h m : Int}, Nng ds → (∀ (i : Nat) (d : Int × Int) (s : Int), ds[i]? = some d → (stv h ds)[i]? = some s → 0 < s → m ≤ d.1 / s) → okm h m ds
  | [], _, _, _, _ => trivial
  | d :: ds, h, m, n, k => by
    refine ⟨?_, okm_at (fun x mx => n x (List.mem_cons_of_mem _ mx)) fun i d' s e f => k (i + 1) d' s e f⟩
    have hs := st1_nn h d
    by_cases c : st1 h d = 0
    · rw [c, Int.mul_zero]
      exact (n d List.mem_cons_self).1
    · have := k 0 d (st1 h d) rfl rfl (by omega)
      exact (Int.le_ediv_iff_mul_le (by omega)).mp this
theorem hit_at : ∀ {ds : List (Int × Int)} {h m : Int} (i : Nat) {d : Int × Int} {s : Int}, ds[i]? = some d → (stv h ds)[i]? = some s → 0 < s → m = d.1 / s → hit h m ds
  | d :: ds, h, m, 0, _, _, e, f, s0, em => by
    obtain rfl := Option.some.inj e
    obtain rfl := Option.some.inj f
    refine .inl ⟨s0, ?_⟩
    have h1 := Int.emod_add_mul_ediv d.1 (st1 h d)
    have h2 := Int.emod_lt_of_pos d.1 s0
    rw [em, Int.mul_comm]
    omega
  | d :: ds, h, m, i + 1, _, _, e, f, s0, em => .inr (hit_at (ds := ds) (h := h + st1 h d) i e f s0 em)
theorem tops_nxt : ∀ {ds : List (Int × Int)} {h m W : Int}, 0 ≤ m → (∀ d ∈ ds, d.1 ≤ W) → ∀ d ∈ nxt h m ds, d.1 ≤ W
  | d :: ds, h, m, W, hm, k, x, mx => by
    rw [nxt_cons] at mx
    rcases List.mem_cons.mp mx with rfl | mx
    · have h1 := k d List.mem_cons_self
      have h2 := Int.mul_nonneg hm (st1_nn h d)
      show d.1 - m * st1 h d ≤ W
      omega
    · exact tops_nxt hm (fun y my => k y (List.mem_cons_of_mem _ my)) x mx
theorem BlkTo.tops {W : Int} (k : ∀ d ∈ cs, d.1 ≤ W) (h : BlkTo cs bl ds) : ∀ d ∈ ds, d.1 ≤ W := by
  induction h with
  | none => exact k
  | more _ _ m1 _ i => exact tops_nxt (by omega) i
/-- the rooms of the blocks, written out -/
def blF (bl : List (Int × List Int)) : List Int := bl.flatMap fun b => List.replicate b.1.toNat b.2.sum
theorem BlkTo.all (n : Nng cs) (h : BlkTo cs bl ds) : fld cs [] = blF bl ++ fld ds [] := by
  induction h with
  | none => rfl
  | @more bl ds m b t m1 o i =>
    have o' : okm 0 (m.toNat : Int) ds := by
      rw [show (m.toNat : Int) = m by omega]
      exact o
    rw [i, fld_block (b.nng n) t o', show (m.toNat : Int) = m by omega]
    unfold blF
    rw [List.flatMap_append, List.append_assoc]
    congr 1
    show _ = (List.replicate m.toNat (stv 0 ds).sum ++ []) ++ _
    rw [List.append_nil]
theorem BlkTo.pos (n : Nng cs) (h : BlkTo cs bl ds) : ∀ b ∈ bl, 1 ≤ b.1 ∧ 0 < b.2.sum ∧ b.2.length = cs.length ∧ ∀ s ∈ b.2, 0 ≤ s := by
  induction h with
  | none => exact fun b m => (List.not_mem_nil m).elim
  | @more bl ds m b t m1 o i =>
    intro x mx
    rcases List.mem_append.mp mx with mx | mx
    · exact i x mx
    · rw [List.mem_singleton.mp mx]
      exact ⟨m1, stv_some (b.nng n) t, by show (stv 0 ds).length = _; rw [stv_len, b.len], stv_nn ds 0⟩
end El
namespace El
open PySem PySem.Spec PyProof.Rows L2
section
variable {P : Program} {w : World} {K : PySem.W.Frag} {mg : Str → Option Value} {base : Heap}
abbrev s__law_alike_rooms : Stmt := topS 18
abbrev N__law_alike_rooms : List Str := ["lot", "left", "found", "turn", "here", "stays", "at", "many", "count", "bears", "some"]
abbrev P__law_alike_rooms : List Str := ["lot"]
theorem sc__law_alike_rooms : FnScope N__law_alike_rooms P__law_alike_rooms (defScope s__law_alike_rooms) := ⟨rfl, rfl, rfl, by decide +kernel, rfl, by decide +kernel, by decide +kernel⟩
/-- a list of pairs, each a number and a list of numbers -/
structure BlkAt (H : Hp) (B : Addr → Prop) (a : Addr) (us : List Addr) (bl : List (Int × List Int)) : Prop where
  top : H a = some (.lst (us.map V.ref))
  len : us.length = bl.length
  at' : ∀ (i : Nat) (u : Addr) (b : Int × List Int), us[i]? = some u → bl[i]? = some b → ∃ s, H u = some (.tup [.int b.1, .ref s]) ∧ H s = some (.lst (b.2.map V.int)) ∧ u ≠ a ∧ s ≠ a ∧ B u ∧ B s
theorem BlkAt.same {H H' : Hp} {B : Addr → Prop} {a : Addr} {us : List Addr} {bl : List (Int × List Int)} (h : BlkAt H B a us bl) (k : Same H H') : BlkAt H' B a us bl := ⟨k _ _ h.top, h.len, fun i u b e f => by
  obtain ⟨s, h1, h2, h3⟩ := h.at' i u b e f
  exact ⟨s, k _ _ h1, k _ _ h2, h3⟩⟩
theorem BlkAt.keep {H H' : Hp} {B : Addr → Prop} {a : Addr} {us : List Addr} {bl : List (Int × List Int)} (h : BlkAt H B a us bl) (ba : B a) (k : Kp B H H') : BlkAt H' B a us bl := ⟨k _ _ ba h.top, h.len, fun i u b e f => by
  obtain ⟨s, h1, h2, h3, h4, h5, h6⟩ := h.at' i u b e f
  exact ⟨s, k _ _ h5 h1, k _ _ h6 h2, h3, h4, h5, h6⟩⟩
theorem BlkAt.wide {H : Hp} {B C : Addr → Prop} {a : Addr} {us : List Addr} {bl : List (Int × List Int)} (h : BlkAt H B a us bl) (k : ∀ z, B z → C z) : BlkAt H C a us bl := ⟨h.top, h.len, fun i u b e f => by
  obtain ⟨s, h1, h2, h3, h4, h5, h6⟩ := h.at' i u b e f
  exact ⟨s, h1, h2, h3, h4, k _ h5, k _ h6⟩⟩
theorem BlkAt.push {H : Hp} {B : Addr → Prop} {a u s : Addr} {us : List Addr} {bl : List (Int × List Int)} {b : Int × List Int} (h : BlkAt H B a us bl) (hu : H u = some (.tup [.int b.1, .ref s])) (hs : H s = some (.lst (b.2.map V.int))) (nu : u ≠ a) (ns : s ≠ a) (bu : B u) (bs : B s) : BlkAt (upd H a (.lst (us.map V.ref ++ [.ref u]))) B a (us ++ [u]) (bl ++ [b]) := by
  refine ⟨by rw [upd_same, List.map_append]; rfl, by rw [List.length_append, List.length_append, h.len]; rfl, fun i x c e f => ?_⟩
  by_cases hi : i < us.length
  · rw [List.getElem?_append_left hi] at e
    rw [List.getElem?_append_left (by rw [← h.len]; exact hi)] at f
    obtain ⟨s', h1, h2, h3, h4, h5⟩ := h.at' i x c e f
    exact ⟨s', (upd_ne h3).trans h1, (upd_ne h4).trans h2, h3, h4, h5⟩
  · rw [List.getElem?_append_right (by omega)] at e
    rw [List.getElem?_append_right (by rw [← h.len]; omega), ← h.len] at f
    have h0 := at_lt e
    have h0 : i - us.length = 0 := by simpa using h0
    rw [h0] at e f
    obtain rfl := Option.some.inj e
    obtain rfl := Option.some.inj f
    exact ⟨s, (upd_ne nu).trans hu, (upd_ne ns).trans hs, nu, ns, bu, bs⟩
theorem BlkAt.get {H : Hp} {B : Addr → Prop} {a : Addr} {us : List Addr} {bl : List (Int × List Int)} (h : BlkAt H B a us bl) {i : Nat} {v : V} (e : (us.map V.ref)[i]? = some v) : ∃ u b s, v = .ref u ∧ bl[i]? = some b ∧ H u = some (.tup [.int b.1, .ref s]) ∧ H s = some (.lst (b.2.map V.int)) := by
  rw [List.getElem?_map] at e
  cases eu : us[i]? with
  | none => rw [eu] at e; cases e
  | some u =>
    rw [eu] at e
    obtain rfl := Option.some.inj e
    obtain ⟨b, eb⟩ := at_some (l := bl) (i := i) (by rw [← h.len]; exact at_lt eu)
    obtain ⟨s, h1, h2, _⟩ := h.at' i u b eu eb
    exact ⟨u, b, s, rfl, eb, h1, h2⟩
/-- what comes of the quotients -/
def quo (ds : List (Int × Int)) : List (Int × Int) := List.zip (ds.map (·.1)) (stv 0 ds)
theorem quo_at {ds : List (Int × Int)} {i : Nat} {d : Int × Int} {s : Int} (e : ds[i]? = some d) (f : (stv 0 ds)[i]? = some s) : (quo ds)[i]? = some (d.1, s) := by
  unfold quo
  rw [List.getElem?_zip_eq_some]
  exact ⟨by rw [List.getElem?_map, e]; rfl, f⟩
theorem quo_len (ds : List (Int × Int)) : (quo ds).length = ds.length := by
  unfold quo
  rw [List.length_zip, List.length_map, stv_len, Nat.min_self]
def quL (L : List (Int × Int)) : List Int := (L.filter fun z => decide (0 < z.2)).map fun z => z.1 / z.2
theorem quL_snoc (L : List (Int × Int)) (z : Int × Int) : quL (L ++ [z]) = quL L ++ if 0 < z.2 then [z.1 / z.2] else [] := by
  unfold quL
  rw [List.filter_append, List.map_append]
  congr 1
  by_cases c : 0 < z.2
  · rw [if_pos c, List.filter_cons, if_pos (decide_eq_true c)]
    rfl
  · rw [if_neg c, List.filter_cons, if_neg (by rw [decide_eq_true_iff]; exact c)]
    rfl
theorem quL_len (L : List (Int × Int)) : (quL L).length ≤ L.length := by
  unfold quL
  rw [List.length_map]
  exact List.length_filter_le _ _
theorem quo_mem {ds : List (Int × Int)} {q : Int} : q ∈ quL (quo ds) ↔ ∃ (i : Nat) (d : Int × Int) (s : Int), ds[i]? = some d ∧ (stv 0 ds)[i]? = some s ∧ 0 < s ∧ q = d.1 / s := by
  unfold quL
  rw [List.mem_map]
  constructor
  · rintro ⟨z, mz, rfl⟩
    obtain ⟨mz, z0⟩ := List.mem_filter.mp mz
    obtain ⟨i, e⟩ := List.mem_iff_getElem?.mp mz
    have hi := at_lt e
    rw [quo_len] at hi
    obtain ⟨d, ed⟩ := at_some hi
    obtain ⟨s, es⟩ := at_some (l := stv 0 ds) (i := i) (by rw [stv_len]; exact hi)
    rw [quo_at ed es] at e
    obtain rfl := Option.some.inj e
    exact ⟨i, d, s, ed, es, of_decide_eq_true z0, rfl⟩
  · rintro ⟨i, d, s, ed, es, s0, rfl⟩
    exact ⟨(d.1, s), List.mem_filter.mpr ⟨List.mem_of_getElem? (quo_at ed es), decide_eq_true s0⟩, rfl⟩
/-- the least quotient makes a block -/
theorem least_ok {ds : List (Int × Int)} (n : Nng ds) {m : Int} (mm : m ∈ quL (quo ds)) (le : ∀ y ∈ quL (quo ds), m ≤ y) : 1 ≤ m ∧ okm 0 m ds ∧ hit 0 m ds := by
  obtain ⟨i, d, s, ed, es, s0, em⟩ := quo_mem.mp mm
  refine ⟨?_, okm_at n fun i d s e f s0 => le _ (quo_mem.mpr ⟨i, d, s, e, f, s0, rfl⟩), hit_at i ed es s0 em⟩
  rw [em]
  have := (st_le_at n ed es).2
  exact (Int.le_ediv_iff_mul_le s0).mpr (by omega)
theorem quo_some {ds : List (Int × Int)} (n : Nng ds) (t : 0 < tot ds) : 0 < (quL (quo ds)).length := by
  have h := stv_some n t
  by_cases c : ∃ s ∈ stv 0 ds, 0 < s
  · obtain ⟨s, ms, s0⟩ := c
    obtain ⟨i, es⟩ := List.mem_iff_getElem?.mp ms
    have hi := at_lt es
    rw [stv_len] at hi
    obtain ⟨d, ed⟩ := at_some hi
    exact List.length_pos_of_mem (quo_mem.mpr ⟨i, d, s, ed, es, s0, rfl⟩)
  · have : ∀ {L : List Int}, (∀ s ∈ L, ¬ 0 < s) → L.sum ≤ 0 := fun {L} => by
      induction L with
      | nil => exact fun _ => Int.le_refl _
      | cons s L ih =>
        intro k
        have h1 := k s List.mem_cons_self
        have h2 := ih fun x m => k x (List.mem_cons_of_mem _ m)
        rw [List.sum_cons]
        omega
    have := this fun s m k => c ⟨s, m, k⟩
    omega
def sp__law_alike_rooms : Sp := fun vs H Q _ => ∃ (B : Addr → Prop) (a : Addr) (ts : List Addr) (cs : List (Int × Int)), vs = [.ref a] ∧ GsAt H B a ts cs ∧ cs.length ≤ 100 ∧ Nng cs ∧ (∀ c ∈ cs, c.1 < 2 ^ 150) ∧
  ∀ (H' : Hp) (q : Addr) (us : List Addr) (bl : List (Int × List Int)) (ds : List (Int × Int)), Same H H' → H q = none → BlkAt H' (fun z => H z = none) q us bl → BlkTo cs bl ds → tot ds = 0 → bl.length ≤ 2 * cs.length + 1 → Q (.ref q) H'
theorem ok__law_alike_rooms (A : At K mg "_law_alike_rooms" P__law_alike_rooms s__law_alike_rooms) (B : Bi mg) : Df P w K mg base 1 "_law_alike_rooms" P__law_alike_rooms s__law_alike_rooms sp__law_alike_rooms := by
  refine A.df fun f fd F => F.ok sc__law_alike_rooms (fun vs H Q E h => ?_) (fun cdv AA outer s H vs Q E hr h => ?_)
  · obtain ⟨_, _, _, _, rfl, _⟩ := h
    rfl
  · obtain ⟨BB, a, ts, cs, rfl, hG, hl, hn, hc, q⟩ := h
    have nd := sc__law_alike_rooms.nd
    refine ⟨_, (pss_cons (ps_set (i := 1) nd rfl (.inr rfl) (pe_lc (own := [("count", 8), ("bears", 9)]) (tt := tYes) rfl nd (pi_list (pv 0)) (blkOk_by (N := N__law_alike_rooms) (sc := defScope s__law_alike_rooms) (by decide +kernel)) (fun _ _ _ _ _ => (pgTupK K 2 (by rfl) (pgs_cons (pg_name (i := 8) nd rfl (.inl rfl)) (pgs_cons (pg_name (i := 9) nd rfl (.inl rfl)) pgs_nil)))) (fun _ _ _ _ _ => pts_nil) (fun _ _ _ _ _ => (pv 8))))
    (pss_cons (ps_set (i := 2) nd rfl (.inl rfl) (pe_lst pa_nil))
    (pss_cons (ps_for PassesOwn.never rfl (pi_range1 (by rfl) B.range (pa_cons (pe_op op_add (pe_op op_mul pe_int (pe_callB call_len_seq (by rfl) B.len PySem.boot_len (pa_cons (pv 0) pa_nil))) pe_int) pa_nil)) (pg_name (i := 3) nd rfl (.inl rfl)) (pss_one (ps_if (pt_cmpR op_gt (pe_callB (cr_sum rfl) (by rfl) B.sum (by decide +kernel) (pa_cons (pv 1) pa_nil)) pe_int (nomark _)) (pss_cons (ps_asg (pe_tup (pa_cons pe_int (pa_cons (pe_lst pa_nil) pa_nil))) (pg_tup (by rfl) (pgs_cons (pg_name (i := 4) nd rfl (.inl rfl)) (pgs_cons (pg_name (i := 5) nd rfl (.inr rfl)) pgs_nil)))) (pss_cons (ps_for PassesOwn.never rfl (pi_range1 (by rfl) B.range (pa_cons (pe_callB call_len_seq (by rfl) B.len PySem.boot_len (pa_cons (pv 0) pa_nil)) pa_nil)) (pg_name (i := 6) nd rfl (.inl rfl)) (pss_cons (ps_expr (pe_bm PySem.F.plainAttrs_list PySem.F.slot_list_append PySem.F.type_list_append mt_append (pv 5) (pa_cons (pe_callB (call_max2 rfl) (by rfl) B.max (by decide +kernel) (pa_cons pe_int (pa_cons (pe_callB (call_min2 rfl) (by rfl) B.min (by decide +kernel) (pa_cons (pe_ix ix_list (pv 1) (pv 6) (fun _ _ => rfl)) (pa_cons (pe_op op_sub (pe_op op_add (pe_ix ix_tup (pe_ix ix_list (pv 0) (pv 6) (fun _ _ => rfl)) pe_int (fun _ _ => rfl)) pe_int) (pv 4)) pa_nil))) pa_nil))) pa_nil))) (pss_one (ps_set (i := 4) nd rfl (.inl rfl) (pe_op op_add (pv 4) (pe_ix ix_list (pv 5) (pe_un un_neg pe_int) (fun _ _ => rfl))))))) (pss_cons (ps_set (i := 7) nd rfl (.inr rfl) (pe_callB (cr_min rfl) (by rfl) B.min (by decide +kernel) (pa_cons (pe_lc (own := [("at", 6)]) rfl nd (pi_range1 (by rfl) B.range (pa_cons (pe_callB call_len_seq (by rfl) B.len PySem.boot_len (pa_cons (pv 0) pa_nil)) pa_nil)) (blkOk_by (N := N__law_alike_rooms) (sc := defScope s__law_alike_rooms) (by decide +kernel)) (fun _ _ _ _ _ => (pg_name (i := 6) nd rfl (.inl rfl))) (fun _ _ _ _ _ => (pts_one (pt_cmpR op_gt (pe_ix (ixlK K) (pv 5) (pv 6) (fun _ _ => rfl)) pe_int (nomark _)))) (fun _ _ _ _ _ => (pe_op op_fdivW (pe_ix (ixlK K) (pv 1) (pv 6) (fun _ _ => rfl)) (pe_ix (ixlK K) (pv 5) (pv 6) (fun _ _ => rfl))))) pa_nil))) (pss_cons (ps_expr (pe_bm PySem.F.plainAttrs_list PySem.F.slot_list_append PySem.F.type_list_append mt_append (pv 2) (pa_cons (pe_tup (pa_cons (pv 7) (pa_cons (pv 5) pa_nil))) pa_nil))) (pss_one (ps_set (i := 1) nd rfl (.inr rfl) (pe_lc (own := [("count", 8), ("some", 10)]) (tt := tYes) rfl nd (pi_zip (by rfl) B.zip (pa_cons (pv 1) (pa_cons (pv 5) pa_nil))) (blkOk_by (N := N__law_alike_rooms) (sc := defScope s__law_alike_rooms) (by decide +kernel)) (fun _ _ _ _ _ => (pgTupK K 2 (by rfl) (pgs_cons (pg_name (i := 8) nd rfl (.inl rfl)) (pgs_cons (pg_name (i := 10) nd rfl (.inl rfl)) pgs_nil)))) (fun _ _ _ _ _ => pts_nil) (fun _ _ _ _ _ => (pe_op op_sub (pv 8) (pe_op op_mulW (pv 7) (pv 10))))))))))) pss_nil)))
    (pss_one (ps_ret (pv 2)))))), ?_⟩
    have lts : (ts.map V.ref).length = cs.length := by rw [List.length_map, hG.len]
    -- left
    refine ⟨.ref a, rfl, a, rfl, ⟨_, hG.seq⟩, fun lf0 nlf0 => ?_⟩
    refine lc_it (walk_list (xs := ts.map V.ref)) (fun k H2 => Same H H2 ∧ H2 lf0 = some (.lst (((cs.take k).map (·.1)).map V.int))) ⟨same_new nlf0, upd_same⟩ (fun k H2 _ hW => (hG.same hW.1).seq) (fun k v H2 H3 hk hW hY => ?_) (fun H2 hW => ?_)
    · obtain ⟨sm, e⟩ := hW
      obtain ⟨rfl, hx⟩ := hY
      obtain ⟨t0, c, rfl, ec, et0⟩ := (hG.same sm).get hx
      refine ⟨t0, _, rfl, SqT.of et0, rfl, .int c.1, _, rfl, .int c.2, _, rfl, rfl, rfl, .int c.1, rfl, _, e, ils (by rw [List.length_map, List.length_map, List.length_take]; omega), Same.mut sm nlf0, ?_⟩
      rw [upd_same, take_snoc ec, List.map_append, List.map_append]
      rfl
    obtain ⟨sl, elf0⟩ := hW
    rw [lts, List.take_length] at elf0
    dsimp only [gName]
    refine ⟨Nat.zero_le _, fun fo nfo => ?_⟩
    have sfo := same_new (o := .lst []) nfo
    have nfo0 : H fo = none := sl.free nfo
    dsimp only [gName]
    refine seq_to (fun σ H3 => ∃ y1 y3 y4 y5 y6 y7 y8 y9 y10 us bl ds, σ = [some (.ref a), y1, some (.ref fo), y3, y4, y5, y6, y7, y8, y9, y10] ∧ Same H H3 ∧ BlkAt H3 (fun z => H z = none) fo us bl ∧ BlkTo cs bl ds ∧ tot ds = 0 ∧ bl.length ≤ 2 * cs.length + 1) (fun X hX => ?_) (fun σ H3 hE => ?_)
    · have s0 := sl.trans sfo
      have lf0fo : lf0 ≠ fo := by
        intro z
        rw [z, nfo] at elf0
        cases elf0
      refine ⟨.ref a, rfl, a, _, rfl, .inl (hG.same s0).seq, 2, _, rfl, rfl, ?_, _, _, rfl, rfl, _, rfl, ?_, ?_, ?_⟩
      · exact .inl ⟨by decide, by decide⟩
      · omega
      · omega
      refine for_it walk_range (fun i σ H3 => ∃ lf y3 y4 y5 y6 y7 y8 y9 y10 us bl ds, σ = [some (.ref a), some (.ref lf), some (.ref fo), y3, y4, y5, y6, y7, y8, y9, y10] ∧ Same H H3 ∧ (lf ≠ fo ∧ H3 lf = some (.lst ((ds.map (·.1)).map V.int))) ∧ BlkAt H3 (fun z => H z = none) fo us bl ∧ BlkTo cs bl ds ∧ (tot ds = 0 ∨ phi 0 ds + i ≤ 2 * cs.length) ∧ bl.length ≤ i)
        ⟨lf0, _, _, _, _, _, _, _, _, [], [], cs, rfl, s0, ⟨lf0fo, sfo _ _ elf0⟩, ⟨upd_same, rfl, fun i u b e _ => by simp at e⟩, .none, .inr (phi_top cs 0), Nat.zero_le _⟩ (fun _ _ _ _ _ => trivial) (fun i x σ H3 H4 hi hW hY => ?_) (fun σ H3 hW => ?_)
      · obtain ⟨lf, y3, y4, y5, y6, y7, y8, y9, y10, us, bl, ds, rfl, s3, ⟨lfo, el⟩, G3, T3, hp, lb⟩ := hW
        obtain ⟨rfl, rfl⟩ := hY
        have nds := T3.nng hn
        have lds := T3.len
        have sn := T3.snd
        have tds := T3.tops (W := 2 ^ 150 - 1) fun c m => by have := hc c m; omega
        refine ⟨.ref lf, rfl, lf, ds.map (·.1), rfl, SqL.of el, _, _, rfl, rfl, _, rfl, ?_⟩
        by_cases ht : 0 < tot ds
        · refine ifYes (decide_eq_true ht) ?_
          refine ⟨Nat.zero_le _, fun sy nsy => ⟨(by show 2 ≤ sizeLine; decide), fun tp ntp => ⟨tp, _, rfl, SqT.of upd_same, rfl, .int 0, _, rfl, .ref sy, _, rfl, rfl, ?_⟩⟩⟩
          have ssy := (same_new (o := .lst []) nsy).trans (same_new (o := .tup [.int 0, .ref sy]) ntp)
          have esy : upd (upd H4 sy (.lst [])) tp (.tup [.int 0, .ref sy]) sy = some (.lst []) := (same_new ntp) _ _ upd_same
          revert ssy esy
          generalize upd (upd H4 sy (.lst [])) tp (.tup [.int 0, .ref sy]) = H7
          intro ssy esy
          dsimp only
          refine seq_to (fun σ H5 => ∃ y3 y4 y6 y7 y8 y9 y10, σ = [some (.ref a), some (.ref lf), some (.ref fo), y3, y4, some (.ref sy), y6, y7, y8, y9, y10] ∧ Same H4 H5 ∧ H5 sy = some (.lst ((stv 0 ds).map V.int))) (fun Y hYY => ?_) (fun σ H5 hE => ?_)
          · refine ⟨.ref a, rfl, a, _, rfl, .inl (hG.same (s3.trans ssy)).seq, _, rfl, ?_, ?_, ?_⟩
            · omega
            · omega
            refine for_it walk_range (fun k σ H5 => ∃ y3 y6 y7 y8 y9 y10, σ = [some (.ref a), some (.ref lf), some (.ref fo), y3, some (.int ((stv 0 ds).take k).sum), some (.ref sy), y6, y7, y8, y9, y10] ∧ Same H4 H5 ∧ H5 sy = some (.lst (((stv 0 ds).take k).map V.int)))
              ⟨_, _, _, _, _, _, rfl, ssy, esy⟩ (fun _ _ _ _ _ => trivial) (fun k x σ H6 H5 hk hW hY => ?_) (fun σ H5 hW => ?_)
            · obtain ⟨y3, y6, y7, y8, y9, y10, rfl, s5, e5⟩ := hW
              obtain ⟨rfl, rfl⟩ := hY
              have hk' : k < cs.length := by rw [← lts]; omega
              obtain ⟨c, ec⟩ := at_some hk'
              obtain ⟨d, ed⟩ := at_some (l := ds) (i := k) (by omega)
              obtain ⟨t, et⟩ := at_some (l := ts) (i := k) (by rw [hG.len]; exact hk')
              have edc : d.2 = c.2 := by
                have := congrArg (·[k]?) sn
                simp only [List.getElem?_map, ed, ec, Option.map_some] at this
                exact Option.some.inj this
              have es := stv_at (h := 0) ed
              rw [Int.zero_add] at es
              have G5 := hG.same (s3.trans s5)
              have el5 := s5 _ _ el
              have e0 : (fun i : Nat => V.int (0 + (i : Int))) k = .int k := by
                show V.int (0 + (k : Int)) = _
                rw [Int.zero_add]
              rw [e0]
              refine ⟨.ref sy, rfl, .inl ⟨rfl, _, SqL.of e5⟩, .ref lf, rfl, .int k, rfl, lf, _, k, .int d.1, rfl, rfl, SqL.of el5, atI_nat (by rw [List.getElem?_map, List.getElem?_map, ed]; rfl), .ref a, rfl, .int k, rfl, a, _, k, .ref t, rfl, rfl, G5.seq, atI_nat (by rw [List.getElem?_map, et]; rfl), t, _, 1, .int c.2, rfl, rfl, SqT.of (G5.at' k t c et ec), rfl, _, _, rfl, rfl, .int _, rfl, _, _, rfl, rfl, _, _, rfl, _, _, rfl, ?_⟩
              have hst : ∀ (h : Int), (if (if c.2 + 1 - h < d.1 then c.2 + 1 - h else d.1) > 0 then (if c.2 + 1 - h < d.1 then c.2 + 1 - h else d.1) else 0) = st1 h d := fun h => by
                unfold st1
                rw [edc]
                split <;> split <;> omega
              rw [hst]
              refine ⟨sy, _, .int (st1 ((stv 0 ds).take k).sum d), rfl, rfl, e5, ils (by rw [List.length_map, List.length_take, stv_len]; omega), ?_⟩
              have nsyf : H4 sy = none := nsy
              refine ⟨.int ((stv 0 ds).take k).sum, rfl, .ref sy, rfl, 1, rfl, sy, _, -1, .int (st1 ((stv 0 ds).take k).sum d), rfl, rfl, SqL.of upd_same, atI_last _ _, _, _, rfl, rfl, ?_⟩
              have esum : ((stv 0 ds).take (k + 1)).sum = ((stv 0 ds).take k).sum + st1 ((stv 0 ds).take k).sum d := by
                rw [take_snoc es, List.sum_append]
                show _ + (_ + 0) = _
                rw [Int.add_zero]
              refine ⟨y3, some (.int k), y7, y8, y9, y10, by rw [esum]; rfl, Same.mut s5 nsyf, ?_⟩
              rw [upd_same, take_snoc es, List.map_append]
              rfl
            · obtain ⟨y3, y6, y7, y8, y9, y10, rfl, s5, e5⟩ := hW
              refine hYY _ _ ⟨_, _, _, _, _, _, _, rfl, s5, ?_⟩
              rw [e5]
              congr 3
              refine List.take_of_length_le ?_
              rw [stv_len]
              omega
          · obtain ⟨y3, y4, y6, y7, y8, y9, y10, rfl, s5, e5⟩ := hE
            -- many
            refine ⟨.ref a, rfl, a, _, rfl, .inl (hG.same (s3.trans s5)).seq, _, rfl, ?_, ?_, fun D nD => ?_⟩
            · omega
            · omega
            refine lc_it walk_range (fun k Hx => Same H5 Hx ∧ Hx D = some (.lst ((quL ((quo ds).take k)).map V.int))) ⟨same_new nD, upd_same⟩ (fun _ _ _ _ => trivial) (fun k x Hy Hx hk hW hY => ?_) (fun Hx hW => ?_)
            · obtain ⟨sx, ex⟩ := hW
              obtain ⟨rfl, rfl⟩ := hY
              have hk' : k < ds.length := by omega
              obtain ⟨d, ed⟩ := at_some hk'
              obtain ⟨z, ez⟩ := at_some (l := stv 0 ds) (i := k) (by rw [stv_len]; exact hk')
              have eq := quo_at ed ez
              have hz := st_le_at nds ed ez
              have hd1 := tds d (List.mem_of_getElem? ed)
              have elx := sx _ _ (s5 _ _ el)
              have e5x := sx _ _ e5
              have al : atI ((ds.map (·.1)).map V.int) (k : Int) = some (.int d.1) := atI_nat (by rw [List.getElem?_map, List.getElem?_map, ed]; rfl)
              have as : atI ((stv 0 ds).map V.int) (k : Int) = some (.int z) := atI_nat (by rw [List.getElem?_map, ez]; rfl)
              have e0 : (fun i : Nat => V.int (0 + (i : Int))) k = .int k := by
                show V.int (0 + (k : Int)) = _
                rw [Int.zero_add]
              rw [e0]
              refine ⟨rfl, .ref sy, rfl, .int k, rfl, sy, _, k, .int z, rfl, rfl, SqL.of e5x, as, _, _, rfl, rfl, _, rfl, ?_⟩
              by_cases hz0 : 0 < z
              · rw [decide_eq_true hz0]
                refine ⟨.ref lf, rfl, .int k, rfl, lf, _, k, .int d.1, rfl, rfl, SqL.of elx, al, .ref sy, rfl, .int k, rfl, sy, _, k, .int z, rfl, rfl, SqL.of e5x, as, d.1, z, rfl, rfl, wide_div (b := 200) hz0 (by omega) (by decide) (by decide), ?_⟩
                refine ⟨_, ex, ils (by rw [List.length_map]; have := quL_len ((quo ds).take k); rw [List.length_take] at this; omega), Same.mut sx nD, ?_⟩
                rw [upd_same, take_snoc eq, quL_snoc, if_pos hz0, List.map_append]
                rfl
              · rw [decide_eq_false hz0]
                refine ⟨sx, ?_⟩
                rw [take_snoc eq, quL_snoc, if_neg hz0, List.append_nil]
                exact ex
            obtain ⟨sx, ex⟩ := hW
            rw [List.take_of_length_le (by rw [quo_len]; omega)] at ex
            refine ⟨D, _, rfl, SqL.of ex, quo_some nds ht, fun m mm le => ?_⟩
            obtain ⟨m1, ok, hit'⟩ := least_ok nds mm le
            dsimp only [gName]
            have G6 := (G3.same s5).same sx
            have ely := sx _ _ (s5 _ _ el)
            have e5y := sx _ _ e5
            refine ⟨.ref fo, rfl, .inl ⟨rfl, _, SqL.of G6.top⟩, .int m, rfl, .ref sy, rfl, (by show 2 ≤ sizeLine; decide), fun T nT => ⟨fo, _, .ref T, rfl, rfl, (same_new nT) _ _ G6.top, ils (by rw [List.length_map, G6.len]; omega), ?_⟩⟩
            have sT := same_new (o := .tup [.int m, .ref sy]) nT
            have Tfo : T ≠ fo := fun z => by rw [z, G6.top] at nT; cases nT
            have syfo : sy ≠ fo := fun z => by rw [z, G3.top] at nsy; cases nsy
            have G7 := (G6.same sT).push (b := (m, stv 0 ds)) upd_same (sT _ _ e5y) Tfo syfo ((s3.trans (s5.trans sx)).free nT) (s3.free nsy)
            have s7 := Same.mut (o := .lst (us.map V.ref ++ [.ref T])) (s3.trans (s5.trans (sx.trans sT))) nfo0
            have el7 : upd (upd Hx T (.tup [.int m, .ref sy])) fo (.lst (us.map V.ref ++ [.ref T])) lf = some (.lst ((ds.map (·.1)).map V.int)) := (upd_ne lfo).trans (sT _ _ ely)
            have e57 : upd (upd Hx T (.tup [.int m, .ref sy])) fo (.lst (us.map V.ref ++ [.ref T])) sy = some (.lst ((stv 0 ds).map V.int)) := (upd_ne syfo).trans (sT _ _ e5y)
            have syfo' := syfo
            revert G7 s7 el7 e57
            generalize upd (upd Hx T (.tup [.int m, .ref sy])) fo (.lst (us.map V.ref ++ [.ref T])) = H8
            intro G7 s7 el7 e57
            -- left
            have hz : ds.length = min ((ds.map (·.1)).map V.int).length ((stv 0 ds).map V.int).length := by rw [List.length_map, List.length_map, List.length_map, stv_len, Nat.min_self]
            refine ⟨.ref lf, rfl, .ref sy, rfl, lf, sy, _, _, rfl, SqL.of el7, SqL.of e57, fun D2 nD2 => ?_⟩
            refine lc_it (walk_zip hz) (fun k H9 => Same H8 H9 ∧ H9 D2 = some (.lst ((((nxt 0 m ds).take k).map (·.1)).map V.int))) ⟨same_new nD2, upd_same⟩ (fun k H9 _ hW => ⟨SqL.of (hW.1 _ _ el7), SqL.of (hW.1 _ _ e57)⟩) (fun k v Ha Hb hk hW hY => ?_) (fun H9 hW => ?_)
            · obtain ⟨sm, eD⟩ := hW
              obtain ⟨U, x1, x2, rfl, nU, rfl, f1, f2⟩ := hY
              obtain ⟨d, ed⟩ := at_some hk
              obtain ⟨z, ez⟩ := at_some (l := stv 0 ds) (i := k) (by rw [stv_len]; exact hk)
              have hz := st_le_at nds ed ez
              have hd1 := tds d (List.mem_of_getElem? ed)
              have en := nxt_at (m := m) ed ez
              have f1 : ((ds.map (·.1)).map V.int)[k]? = some x1 := f1
              have f2 : ((stv 0 ds).map V.int)[k]? = some x2 := f2
              rw [List.getElem?_map, List.getElem?_map, ed] at f1
              rw [List.getElem?_map, ez] at f2
              obtain rfl := Option.some.inj f1
              obtain rfl := Option.some.inj f2
              have sU := same_new (o := .tup [V.int d.1, .int z]) nU
              have hm2 : m < 2 ^ 150 := by
                obtain ⟨i, d', s', ed', es', s0', em⟩ := quo_mem.mp mm
                have h1 := tds d' (List.mem_of_getElem? ed')
                have h2 := Int.ediv_le_self s' (show 0 ≤ d'.1 by have := st_le_at nds ed' es'; omega)
                omega
              refine ⟨U, _, rfl, SqT.of upd_same, rfl, .int d.1, _, rfl, .int z, _, rfl, rfl, rfl, ?_⟩
              refine ⟨.int d.1, rfl, .int m, rfl, .int z, rfl, m, z, rfl, rfl, wide_mul (a := 200) (b := 200) (by omega) (by omega) (by decide) (by decide) (by decide), d.1, m * z, rfl, rfl, _, sU _ _ eD, ils (by rw [List.length_map, List.length_map, List.length_take]; omega), Same.mut (sm.trans sU) nD2, ?_⟩
              rw [upd_same, take_snoc en, List.map_append, List.map_append]
              rfl
            obtain ⟨sm, eD⟩ := hW
            rw [List.take_of_length_le (by rw [nxt_len]; omega)] at eD
            dsimp only [gName]
            have nD2' : D2 ≠ fo := fun z => by rw [z, G7.top] at nD2; cases nD2
            refine ⟨D2, _, _, _, _, _, _, _, _, us ++ [T], bl ++ [(m, stv 0 ds)], nxt 0 m ds, rfl, s7.trans sm, ⟨nD2', eD⟩, G7.same sm, T3.more ht m1 ok, ?_, by rw [List.length_append]; show bl.length + 1 ≤ i + 1; omega⟩
            have hdown := (phi_down (h' := 0) (Int.le_refl 0) m1 nds ok).2 hit'
            rcases hp with hp | hp
            · omega
            · exact .inr (by omega)
        · refine ifNo (decide_eq_false ht) ?_
          have := tot_nn nds
          exact ⟨lf, _, _, _, _, _, _, _, _, us, bl, ds, rfl, s3, ⟨lfo, el⟩, G3, T3, .inl (by omega), by omega⟩
      · obtain ⟨lf, y3, y4, y5, y6, y7, y8, y9, y10, us, bl, ds, rfl, s3, ⟨lfo, el⟩, G3, T3, hp, lb⟩ := hW
        refine hX _ _ ⟨_, _, _, _, _, _, _, _, _, us, bl, ds, rfl, s3, G3, T3, ?_, ?_⟩
        · rcases hp with hp | hp
          · exact hp
          · rw [lts] at hp
            omega
        · rw [lts] at lb
          omega
    · obtain ⟨y1, y3, y4, y5, y6, y7, y8, y9, y10, us, bl, ds, rfl, s3, G3, T3, t0, lb⟩ := hE
      exact ⟨_, rfl, q H3 fo us bl ds s3 nfo0 G3 T3 t0 lb⟩
end
end El
namespace El
/-! ### the room of one of a crowd, block after block -/
theorem stv_take : ∀ (ds : List (Int × Int)) (h : Int) (j : Nat), stv h (ds.take j) = (stv h ds).take j
  | _, _, 0 => by
    rw [List.take_zero, List.take_zero]
    rfl
  | [], _, _ + 1 => rfl
  | d :: ds, h, j + 1 => congrArg (st1 h d :: ·) (stv_take ds _ j)
theorem nxt_take : ∀ (ds : List (Int × Int)) (h m : Int) (j : Nat), nxt h m (ds.take j) = (nxt h m ds).take j
  | _, _, _, 0 => by
    rw [List.take_zero, List.take_zero]
    rfl
  | [], _, _, _ + 1 => rfl
  | d :: ds, h, m, j + 1 => congrArg ((d.1 - m * st1 h d, d.2) :: ·) (nxt_take ds _ m j)
theorem okm_take : ∀ {ds : List (Int × Int)} {h m : Int} (j : Nat), okm h m ds → okm h m (ds.take j)
  | _, _, _, 0, _ => by
    rw [List.take_zero]
    trivial
  | [], _, _, _ + 1, _ => trivial
  | d :: ds, h, m, j + 1, o => ⟨o.1, okm_take (ds := ds) j o.2⟩
theorem okm_all : ∀ {ds : List (Int × Int)} {h : Int}, Nng ds → okm h 1 ds
  | [], _, _ => trivial
  | d :: ds, h, n => ⟨by rw [Int.one_mul]; exact st1_le h (n d List.mem_cons_self).1, okm_all fun x m => n x (List.mem_cons_of_mem _ m)⟩
theorem okm_top : ∀ {ds : List (Int × Int)} {h m W : Int}, 1 ≤ m → okm h m ds → 0 < (stv h ds).sum → (∀ d ∈ ds, d.1 ≤ W) → m ≤ W
  | [], _, _, _, _, _, s, _ => absurd s (show ¬ ((0 : Int) < 0) by decide)
  | d :: ds, h, m, W, m1, o, s, k => by
    have hs := st1_nn h d
    by_cases c : st1 h d = 0
    · rw [stv_cons, List.sum_cons, c, Int.zero_add] at s
      exact okm_top (ds := ds) m1 (by have := o.2; rw [c] at this; exact this) s fun x mx => k x (List.mem_cons_of_mem _ mx)
    · have h1 := Int.mul_le_mul_of_nonneg_left (show (1 : Int) ≤ st1 h d by omega) (show 0 ≤ m by omega)
      rw [Int.mul_one] at h1
      have h2 := o.1
      have h3 := k d List.mem_cons_self
      omega
theorem rnE_room {ds : List (Int × Int)} {p n : Int} (nn : Nng ds) (hp : 0 ≤ p) (n1 : 1 ≤ n) : rnE p n (fld ds []) = if n ≤ plc (stv 0 ds).sum p then 0 else rnE p (n - plc (stv 0 ds).sum p) (fld (nxt 0 1 ds) []) + 1 := by
  have ok := okm_all (h := 0) nn
  have t0 := tot_nn nn
  by_cases t : 0 < tot ds
  · rw [fld_room nn t]
    rfl
  · have e0 : tot ds = 0 := by omega
    have z := stv_none (h := 0) nn e0
    have e1 : tot (nxt 0 1 ds) = 0 := by
      rw [nxt_tot, z, e0]
      rfl
    rw [fld_none nn e0, fld_none (nxt_nng nn ok) e1, z]
    show (n - 1) / plc 0 p = if n ≤ plc 0 p then 0 else (n - plc 0 p - 1) / plc 0 p + 1
    have e2 : plc 0 p = p + 1 := by
      unfold plc
      omega
    rw [e2]
    by_cases c : n ≤ p + 1
    · rw [if_pos c, Int.ediv_eq_zero_of_lt (by omega) (by omega)]
    · rw [if_neg c, show n - 1 = (n - (p + 1) - 1) + (p + 1) by omega, Int.add_ediv_of_dvd_right (Int.dvd_refl _), Int.ediv_self (by omega)]
theorem rnE_rooms {ds : List (Int × Int)} {p n : Int} (nn : Nng ds) (hp : 0 ≤ p) (n1 : 1 ≤ n) : ∀ {k : Nat}, okm 0 k ds → rnE p n (fld ds []) = if n ≤ k * plc (stv 0 ds).sum p then (n - 1) / plc (stv 0 ds).sum p else rnE p (n - k * plc (stv 0 ds).sum p) (fld (nxt 0 k ds) []) + k
  | 0, _ => by
    rw [show ((0 : Nat) : Int) * plc (stv 0 ds).sum p = 0 by simp, if_neg (by omega), show ((0 : Nat) : Int) = 0 from rfl, nxt_0, Int.sub_zero, Int.add_zero]
  | k + 1, o => by
    have o' : okm 0 ((k : Int) + 1) ds := o
    have ok := okm_less (k := (k : Int)) (by omega) o'
    obtain ⟨a1, a2, a3⟩ := alike_on (Int.natCast_nonneg k) o'
    have n2 := nxt_nng nn ok
    have hb := plc_nn (stv 0 ds).sum p
    rw [rnE_rooms nn hp n1 ok]
    generalize hB : plc (stv 0 ds).sum p = b at hb ⊢
    have hcb : 0 ≤ (k : Int) * b := Int.mul_nonneg (by omega) hb
    have hs : ((k + 1 : Nat) : Int) * b = k * b + b := by
      rw [show ((k + 1 : Nat) : Int) = (k : Int) + 1 from rfl, Int.add_mul, Int.one_mul]
    rw [hs]
    by_cases c1 : n ≤ k * b
    · rw [if_pos c1, if_pos (by omega)]
    · rw [if_neg c1, rnE_room n2 hp (by omega), a1, a2, hB]
      by_cases c2 : n - k * b ≤ b
      · rw [if_pos c2, if_pos (by omega)]
        have b0 : b ≠ 0 := fun e => by omega
        rw [show n - 1 = (n - k * b - 1) + k * b by omega, Int.add_mul_ediv_right _ _ b0, Int.ediv_eq_zero_of_lt (by omega) (by omega)]
      · rw [if_neg c2, if_neg (by omega), show n - (k * b + b) = n - k * b - b by omega]
        show _ + 1 + (k : Int) = rnE p (n - k * b - b) (fld (nxt 0 ((k : Int) + 1) ds) []) + ((k : Int) + 1)
        omega
/-- one block, for one of a crowd that has not yet found a room -/
theorem room_block {ds : List (Int × Int)} {m : Int} (nn : Nng ds) (m1 : 1 ≤ m) (o : okm 0 m ds) {j : Nat} {l p s : Int} (ed : ds[j]? = some (l, p)) (es : (stv 0 ds)[j]? = some s) {pl : Int} (h0 : 0 ≤ pl) (h1 : pl < l) :
    (pl < m * s → 0 < s ∧ rnE p (pl + 1) (fld (ds.take j) []) = pl / s) ∧ (¬ pl < m * s → rnE p (pl + 1) (fld (ds.take j) []) = rnE p (pl - m * s + 1) (fld ((nxt 0 m ds).take j) []) + m) := by
  have hp : 0 ≤ p := (nn _ (List.mem_of_getElem? ed)).2
  have n2 : Nng (ds.take j) := fun x mx => nn x (List.mem_of_mem_take mx)
  have o2 : okm 0 (m.toNat : Int) (ds.take j) := by
    rw [show (m.toNat : Int) = m by omega]
    exact okm_take j o
  have R := rnE_rooms n2 hp (show 1 ≤ pl + 1 by omega) o2
  rw [show (m.toNat : Int) = m by omega, nxt_take, stv_take] at R
  have hs := stv_at (h := 0) ed
  rw [es, Int.zero_add] at hs
  have hs := Option.some.inj hs
  generalize hh : ((stv 0 ds).take j).sum = h at R hs
  rw [show pl + 1 - 1 = pl by omega] at R
  -- all of them stay, or as many as are borne
  have hc : s = plc h p ∨ (s = l ∧ l < plc h p) := by
    rw [hs]
    unfold st1 plc
    show max 0 (min l (p + 1 - h)) = _ ∨ _
    omega
  rcases hc with e | ⟨e, c⟩
  · rw [← e] at R
    refine ⟨fun c => ⟨?_, ?_⟩, fun c => ?_⟩
    · by_cases z : s = 0
      · rw [z, Int.mul_zero] at c
        omega
      · have := plc_nn h p
        omega
    · rw [if_pos (by omega)] at R
      exact R
    · rw [if_neg (by omega)] at R
      rw [R, show pl + 1 - m * s = pl - m * s + 1 by omega]
  · have hq := Int.mul_le_mul_of_nonneg_right m1 (show 0 ≤ l by omega)
    rw [Int.one_mul] at hq
    have hq2 := Int.mul_le_mul_of_nonneg_right m1 (plc_nn h p)
    rw [Int.one_mul] at hq2
    refine ⟨fun _ => ⟨by omega, ?_⟩, fun k => absurd (show pl < m * s by rw [e]; omega) k⟩
    rw [if_pos (by omega), Int.ediv_eq_zero_of_lt h0 (by omega)] at R
    rw [R, e, Int.ediv_eq_zero_of_lt h0 h1]
/-- the blocks up to one of them -/
theorem BlkTo.part {cs ds : List (Int × Int)} {bl : List (Int × List Int)} (h : BlkTo cs bl ds) : ∀ i, i ≤ bl.length → ∃ es, BlkTo cs (bl.take i) es ∧ (i = bl.length → es = ds) ∧ ∀ b, bl[i]? = some b → b.2 = stv 0 es ∧ 0 < tot es ∧ 1 ≤ b.1 ∧ okm 0 b.1 es := by
  induction h with
  | none => exact fun i hi => ⟨cs, by rw [show i = 0 from Nat.le_zero.mp hi]; exact .none, fun _ => rfl, fun b e => by simp at e⟩
  | @more bl ds m b t m1 o ih =>
    intro i hi
    rw [List.length_append] at hi
    have hi : i ≤ bl.length + 1 := hi
    by_cases c : i = bl.length + 1
    · refine ⟨nxt 0 m ds, ?_, fun _ => rfl, fun b e => ?_⟩
      · rw [c, List.take_of_length_le (by rw [List.length_append]; exact Nat.le_refl _)]
        exact .more b t m1 o
      · rw [List.getElem?_eq_none (by rw [List.length_append, c]; exact Nat.le_refl _)] at e
        cases e
    · obtain ⟨es, B, e1, e2⟩ := ih i (by omega)
      refine ⟨es, by rw [List.take_append_of_le_length (by omega)]; exact B, fun e => ?_, fun x ex => ?_⟩
      · rw [List.length_append] at e
        exact absurd e c
      · by_cases c2 : i = bl.length
        · obtain rfl := e1 c2
          rw [List.getElem?_append_right (by omega), c2, Nat.sub_self] at ex
          obtain rfl := Option.some.inj ex
          exact ⟨rfl, t, m1, o⟩
        · rw [List.getElem?_append_left (by omega)] at ex
          exact e2 x ex
/-- who is left behind the blocks -/
def stA (cs : List (Int × Int)) (bl : List (Int × List Int)) : List (Int × Int) := bl.foldl (fun d b => nxt 0 b.1 d) cs
theorem BlkTo.is {cs ds : List (Int × Int)} {bl : List (Int × List Int)} (h : BlkTo cs bl ds) : ds = stA cs bl := by
  induction h with
  | none => rfl
  | @more bl ds m b t m1 o ih =>
    unfold stA at ih ⊢
    rw [List.foldl_append, ← ih]
    rfl
theorem BlkTo.at {cs ds : List (Int × Int)} {bl : List (Int × List Int)} (h : BlkTo cs bl ds) {j : Nat} {c : Int × Int} (e : cs[j]? = some c) : ∃ l, ds[j]? = some (l, c.2) := by
  obtain ⟨d, ed⟩ := at_some (l := ds) (i := j) (by rw [h.len]; exact at_lt e)
  have := congrArg (·[j]?) h.snd
  simp only [List.getElem?_map, ed, e, Option.map_some] at this
  exact ⟨d.1, by rw [ed, ← Option.some.inj this]⟩
theorem tot_at : ∀ {ds : List (Int × Int)} {j : Nat} {d : Int × Int}, Nng ds → tot ds = 0 → ds[j]? = some d → d.1 = 0
  | d :: ds, j, d', n, t, e => by
    have h1 := (n d List.mem_cons_self).1
    have nn : Nng ds := fun x m => n x (List.mem_cons_of_mem _ m)
    have h2 := tot_nn nn
    rw [tot_cons] at t
    cases j with
    | zero =>
      obtain rfl := Option.some.inj e
      omega
    | succ j => exact tot_at (j := j) nn (by omega) e
end El
namespace El
open PySem PySem.Spec PyProof.Rows L2
section
variable {P : Program} {w : World} {K : PySem.W.Frag} {mg : Str → Option Value} {base : Heap}
abbrev s__law_room : Stmt := topS 21
abbrev N__law_room : List Str := ["alike", "at", "place", "found", "many", "stays"]
abbrev P__law_room : List Str := ["alike", "at", "place"]
theorem sc__law_room : FnScope N__law_room P__law_room (defScope s__law_room) := ⟨rfl, rfl, rfl, by decide +kernel, rfl, by decide +kernel, by decide +kernel⟩
theorem stv_le_top {ds : List (Int × Int)} {W : Int} (n : Nng ds) (k : ∀ d ∈ ds, d.1 ≤ W) {i : Nat} {s : Int} (e : (stv 0 ds)[i]? = some s) : 0 ≤ s ∧ s ≤ W := by
  have hi := at_lt e
  rw [stv_len] at hi
  obtain ⟨d, ed⟩ := at_some hi
  have h1 := st_le_at n ed e
  have h2 := k d (List.mem_of_getElem? ed)
  exact ⟨h1.1, by omega⟩
def sp__law_room : Sp := fun vs H Q _ => ∃ (BB : Addr → Prop) (a : Addr) (us : List Addr) (cs ds : List (Int × Int)) (bl : List (Int × List Int)) (j : Nat) (c : Int × Int) (pl : Int), vs = [.ref a, .int j, .int pl] ∧ BlkAt H BB a us bl ∧ BlkTo cs bl ds ∧ tot ds = 0 ∧ Nng cs ∧ (∀ c ∈ cs, c.1 < 2 ^ 150) ∧ cs[j]? = some c ∧ 0 ≤ pl ∧ pl < c.1 ∧
  Q (.int (rnE c.2 (pl + 1) (fld (cs.take j) []))) H
theorem ok__law_room (A : At K mg "_law_room" P__law_room s__law_room) (B : Bi mg) : Df P w K mg base 1 "_law_room" P__law_room s__law_room sp__law_room := by
  refine A.df fun f fd F => F.ok sc__law_room (fun vs H Q E h => ?_) (fun cdv AA outer s H vs Q E hr h => ?_)
  · obtain ⟨_, _, _, _, _, _, _, _, _, rfl, _⟩ := h
    rfl
  · obtain ⟨BB, a, us, cs, ds, bl, j, c, pl, rfl, BA, BT, t0, hn, hc, ec, p0, p1, q⟩ := h
    have nd := sc__law_room.nd
    refine ⟨_, (pss_cons (ps_set (i := 3) nd rfl (.inl rfl) pe_int)
    (pss_cons (ps_for PassesOwn.never rfl (pi_list (pv 0)) (pg_tup (by rfl) (pgs_cons (pg_name (i := 4) nd rfl (.inl rfl)) (pgs_cons (pg_name (i := 5) nd rfl (.inl rfl)) pgs_nil))) (pss_cons (ps_if (pt_cmpR op_lt (pv 2) (pe_op op_mulW (pv 4) (pe_ix ix_list (pv 5) (pv 1) (fun _ _ => rfl))) (nomark _)) (pss_one (ps_ret (pe_op op_add (pv 3) (pe_op op_fdivW (pv 2) (pe_ix ix_list (pv 5) (pv 1) (fun _ _ => rfl)))))) pss_nil) (pss_cons (ps_set (i := 2) nd rfl (.inl rfl) (pe_op op_sub (pv 2) (pe_op op_mulW (pv 4) (pe_ix ix_list (pv 5) (pv 1) (fun _ _ => rfl))))) (pss_one (ps_set (i := 3) nd rfl (.inl rfl) (pe_op op_add (pv 3) (pv 4)))))))
    (pss_one (ps_ret pe_non)))), ?_⟩
    dsimp only [gName]
    refine seq_set ?_
    refine seq_to (fun _ _ => False) (fun X hX => ?_) (fun σ H2 hE => hE.elim)
    refine ⟨.ref a, rfl, a, rfl, ⟨_, SqL.of BA.top⟩, ?_⟩
    refine for_it (walk_list (xs := us.map V.ref)) (fun i σ H2 => ∃ (place found : Int) (y4 y5 : Option V), σ = [some (.ref a), some (.int j), some (.int place), some (.int found), y4, y5] ∧ H2 = H ∧ 0 ≤ place ∧ (∃ l, (stA cs (bl.take i))[j]? = some (l, c.2) ∧ place < l) ∧ rnE c.2 (pl + 1) (fld (cs.take j) []) = rnE c.2 (place + 1) (fld ((stA cs (bl.take i)).take j) []) + found)
      ⟨pl, 0, _, _, rfl, rfl, p0, ⟨c.1, ec, p1⟩, (Int.add_zero _).symm⟩ (fun i σ H2 _ hW => ?_) (fun i v σ H2 H3 hi hW hY => ?_) (fun σ H2 hW => ?_)
    · obtain ⟨_, _, _, _, _, rfl, _⟩ := hW
      exact SqL.of BA.top
    · obtain ⟨place, found, y4, y5, rfl, rfl, q0, ⟨l, el, q1⟩, hP⟩ := hW
      obtain ⟨rfl, hx⟩ := hY
      obtain ⟨t, b, sy, rfl, eb, et, es⟩ := BA.get hx
      have hib := at_lt eb
      obtain ⟨ds', B', _, hb⟩ := BT.part i (by omega)
      obtain ⟨hb2, ht, m1, ok⟩ := hb b eb
      have eds := B'.is
      rw [← eds] at el hP
      have nn' := B'.nng hn
      have tp' := B'.tops (W := 2 ^ 150 - 1) fun c m => by have := hc c m; omega
      obtain ⟨z, ez⟩ := at_some (l := stv 0 ds') (i := j) (by rw [stv_len]; exact at_lt el)
      have hz := stv_le_top nn' tp' ez
      have hm := okm_top m1 ok (stv_some nn' ht) tp'
      have hR := room_block nn' m1 ok el ez q0 q1
      have ai : atI (b.2.map V.int) (j : Int) = some (.int z) := atI_nat (by rw [hb2, List.getElem?_map, ez]; rfl)
      have aw : CMulW b.1 z := wide_mul (a := 200) (b := 200) (by omega) (by omega) (by decide) (by decide) (by decide)
      refine ⟨t, _, rfl, SqT.of et, rfl, .int b.1, _, rfl, .ref sy, _, rfl, rfl, ?_⟩
      refine ⟨.int place, rfl, .int b.1, rfl, .ref sy, rfl, .int j, rfl, sy, _, j, .int z, rfl, rfl, SqL.of es, ai, b.1, z, rfl, rfl, aw, _, _, rfl, rfl, _, rfl, ?_⟩
      by_cases c1 : place < b.1 * z
      · refine ifYes (decide_eq_true c1) ?_
        obtain ⟨z0, r⟩ := hR.1 c1
        refine ⟨.int found, rfl, .int place, rfl, .ref sy, rfl, .int j, rfl, sy, _, j, .int z, rfl, rfl, SqL.of es, ai, place, z, rfl, rfl, wide_div (b := 200) z0 (by omega) (by decide) (by decide), found, place / z, rfl, rfl, ?_⟩
        rw [hP, r, Int.add_comm] at q
        exact q
      · refine ifNo (decide_eq_false c1) ?_
        have r := hR.2 c1
        refine ⟨.int place, rfl, .int b.1, rfl, .ref sy, rfl, .int j, rfl, sy, _, j, .int z, rfl, rfl, SqL.of es, ai, b.1, z, rfl, rfl, aw, place, b.1 * z, rfl, rfl, ?_⟩
        refine ⟨.int found, rfl, .int b.1, rfl, found, b.1, rfl, rfl, ?_⟩
        have enx : stA cs (bl.take (i + 1)) = nxt 0 b.1 ds' := by
          rw [take_snoc eb]
          unfold stA at eds ⊢
          rw [List.foldl_append, ← eds]
          rfl
        refine ⟨place - b.1 * z, found + b.1, _, _, rfl, rfl, by omega, ⟨l - b.1 * z, ?_, by omega⟩, ?_⟩
        · rw [enx]
          exact nxt_at el ez
        · rw [enx, hP, r]
          omega
    · obtain ⟨place, found, y4, y5, rfl, rfl, q0, ⟨l, el, q1⟩, hP⟩ := hW
      have lu : (us.map V.ref).length = bl.length := by rw [List.length_map, BA.len]
      rw [lu, List.take_length, ← BT.is] at el
      have := tot_at (BT.nng hn) t0 el
      have : l = 0 := this
      omega
end
end El
namespace El
open PySem PySem.Spec PyProof.Rows L2
section
variable {P : Program} {w : World} {K : PySem.W.Frag} {mg : Str → Option Value} {base : Heap}
abbrev s__law_spots : Stmt := topS 22
abbrev N__law_spots : List Str := ["pot", "alike", "at", "count", "edges", "many", "stays", "found", "turn", "place"]
abbrev P__law_spots : List Str := ["pot", "alike", "at", "count"]
theorem sc__law_spots : FnScope N__law_spots P__law_spots (defScope s__law_spots) := ⟨rfl, rfl, rfl, by decide +kernel, rfl, by decide +kernel, by decide +kernel⟩
theorem last_of {es : List Int} (h : 0 < es.length) : ∃ x, atI (es.map V.int) (-1) = some (.int x) := by
  rcases List.eq_nil_or_concat es with rfl | ⟨pre, x, e⟩
  · exact absurd h (by decide)
  · rw [List.concat_eq_append] at e
    refine ⟨x, ?_⟩
    rw [e, List.map_append]
    exact atI_last _ _
def sp__law_spots : Sp := fun vs H Q _ => ∃ (b a : Addr) (BB : Addr → Prop) (us : List Addr) (bl : List (Int × List Int)) (j n : Nat) (count : Int), vs = [.ref b, .ref a, .int j, .int count] ∧ Pot H b n ∧ n ≤ 900000000 ∧ BlkAt H BB a us bl ∧ bl.length ≤ 100 ∧ (∀ x ∈ bl, (0 ≤ x.1 ∧ x.1 < 2 ^ 150) ∧ ∃ s, x.2[j]? = some s ∧ 0 ≤ s ∧ s < 2 ^ 150) ∧ 0 < count ∧ count < 2 ^ 150 ∧
  ∀ (H' : Hp) (q : Addr) (xs : List Int), Dr H b (n + 20) H' → H' q = some (.lst (xs.map V.int)) → H q = none → (∀ x ∈ xs, 0 ≤ x ∧ x < count) → xs.length ≤ 10 → Q (.ref q) H'
theorem ok__law_spots (A : At K mg "_law_spots" P__law_spots s__law_spots) (B : Bi mg) (D__law_draw : Df P w K mg base 1 "_law_draw" P__law_draw s__law_draw sp__law_draw) : Df P w K mg base 2 "_law_spots" P__law_spots s__law_spots sp__law_spots := by
  refine A.df fun f fd F => F.ok sc__law_spots (fun vs H Q E h => ?_) (fun cdv AA outer s H vs Q E hr h => ?_)
  · obtain ⟨_, _, _, _, _, _, _, _, rfl, _⟩ := h
    rfl
  · obtain ⟨b, a, BB, us, bl, j, n, count, rfl, hT, hn, BA, lbl, hbl, c0, c1, q⟩ := h
    have nd := sc__law_spots.nd
    refine ⟨_, (pss_cons (ps_set (i := 4) nd rfl (.inr rfl) (pe_lst (pa_cons pe_int pa_nil)))
    (pss_cons (ps_for PassesOwn.never rfl (pi_list (pv 1)) (pg_tup (by rfl) (pgs_cons (pg_name (i := 5) nd rfl (.inl rfl)) (pgs_cons (pg_name (i := 6) nd rfl (.inl rfl)) pgs_nil))) (pss_one (ps_set (i := 4) nd rfl (.inr rfl) (pe_op op_cat (pv 4) (pe_lst (pa_cons (pe_op op_sub (pe_op op_add (pe_ix ix_list (pv 4) (pe_un un_neg pe_int) (fun _ _ => rfl)) (pe_op op_mulW (pv 5) (pe_ix ix_list (pv 6) (pv 2) (fun _ _ => rfl)))) (pe_ix ix_list (pv 6) (pv 2) (fun _ _ => rfl))) (pa_cons (pe_op op_add (pe_ix ix_list (pv 4) (pe_un un_neg pe_int) (fun _ _ => rfl)) (pe_op op_mulW (pv 5) (pe_ix ix_list (pv 6) (pv 2) (fun _ _ => rfl)))) pa_nil)))))))
    (pss_cons (ps_set (i := 7) nd rfl (.inl rfl) (pe_lst (pa_cons pe_int (pa_cons (pe_op op_sub (pv 3) pe_int) (pa_cons (pe_df D__law_draw (hr.mono (by decide)) (by rfl) (pa_cons (pv 0) (pa_cons (pv 3) pa_nil))) pa_nil)))))
    (pss_cons (ps_set (i := 7) nd rfl (.inl rfl) (pe_op op_cat (pv 7) (pe_lc (own := [("turn", 8)]) (tt := tYes) rfl nd (pi_range1 (by rfl) B.range (pa_cons pe_int pa_nil)) (blkOk_by (N := N__law_spots) (sc := defScope s__law_spots) (by decide +kernel)) (fun _ _ _ _ _ => (pg_name (i := 8) nd rfl (.inl rfl))) (fun _ _ _ _ _ => pts_nil) (fun _ _ _ _ _ => (pe_op op_sub (pe_op op_add (pe_ix (ixlK K) (pv 4) (pe_df D__law_draw (hr.mono (by decide)) (by rfl) (pa_cons (pv 0) (pa_cons (pe_callB (lenK K) (by rfl) B.len PySem.boot_len (pa_cons (pv 4) pa_nil)) pa_nil))) (fun _ _ => rfl)) (pe_df D__law_draw (hr.mono (by decide)) (by rfl) (pa_cons (pv 0) (pa_cons pe_int pa_nil)))) pe_int)))))
    (pss_one (ps_ret (pe_lc (own := [("place", 9)]) rfl nd (pi_list (pv 7)) (blkOk_by (N := N__law_spots) (sc := defScope s__law_spots) (by decide +kernel)) (fun _ _ _ _ _ => (pg_name (i := 9) nd rfl (.inl rfl))) (fun _ _ _ _ _ => (pts_one (pt_chain op_le op_lt pe_int (pv 9) (pv 3)))) (fun _ _ _ _ _ => (pv 9))))))))), ?_⟩
    have c200 : count < 2 ^ 200 := Int.lt_trans c1 (by decide)
    refine ⟨(by show 1 ≤ sizeLine; decide), fun e0 ne0 => ?_⟩
    have s0 := same_new (o := .lst [V.int 0]) ne0
    dsimp only [gName]
    refine seq_to (fun σ Hx => ∃ (y5 y6 y7 y8 y9 : Option V) (eo : Addr) (es : List Int), σ = [some (.ref b), some (.ref a), some (.int j), some (.int count), some (.ref eo), y5, y6, y7, y8, y9] ∧ Same H Hx ∧ eo ≠ b ∧ Hx eo = some (.lst (es.map V.int)) ∧ 0 < es.length ∧ es.length ≤ 201) (fun X hX => ?_) (fun σ H1 hE => ?_)
    · refine ⟨.ref a, rfl, a, rfl, ⟨_, SqL.of (s0 _ _ BA.top)⟩, ?_⟩
      refine for_it (walk_list (xs := us.map V.ref)) (fun i σ Hx => ∃ (y5 y6 y7 y8 y9 : Option V) (eo : Addr) (es : List Int), σ = [some (.ref b), some (.ref a), some (.int j), some (.int count), some (.ref eo), y5, y6, y7, y8, y9] ∧ Same H Hx ∧ eo ≠ b ∧ Hx eo = some (.lst (es.map V.int)) ∧ 0 < es.length ∧ es.length ≤ 1 + 2 * i)
        ⟨_, _, _, _, _, e0, [0], rfl, s0, hT.off ne0, upd_same, by decide, by decide⟩ (fun i σ Hx _ hW => ?_) (fun i v σ Hx Hy hi hW hY => ?_) (fun σ Hx hW => ?_)
      · obtain ⟨_, _, _, _, _, _, _, _, sx, _⟩ := hW
        exact SqL.of (sx _ _ BA.top)
      · obtain ⟨y5, y6, y7, y8, y9, eo, es, rfl, sx, neb, ee, l0, l1⟩ := hW
        obtain ⟨rfl, hx⟩ := hY
        obtain ⟨t, x, sy, rfl, eb, et, esy⟩ := (BA.same sx).get hx
        have hib := at_lt eb
        obtain ⟨hm, z, ez, z0, z1⟩ := hbl x (List.mem_of_getElem? eb)
        obtain ⟨la, hla⟩ := last_of l0
        have ai : atI (x.2.map V.int) (j : Int) = some (.int z) := atI_nat (by rw [List.getElem?_map, ez]; rfl)
        have aw : CMulW x.1 z := wide_mul (a := 200) (b := 200) (by omega) (by omega) (by decide) (by decide) (by decide)
        refine ⟨t, _, rfl, SqT.of et, rfl, .int x.1, _, rfl, .ref sy, _, rfl, rfl, ?_⟩
        refine ⟨.ref eo, rfl, .ref eo, rfl, 1, rfl, eo, _, -1, .int la, rfl, rfl, SqL.of ee, hla, .int x.1, rfl, .ref sy, rfl, .int j, rfl, sy, _, j, .int z, rfl, rfl, SqL.of esy, ai, x.1, z, rfl, rfl, aw, la, x.1 * z, rfl, rfl, .ref sy, rfl, .int j, rfl, sy, _, j, .int z, rfl, rfl, SqL.of esy, ai, _, _, rfl, rfl, ?_⟩
        refine ⟨.ref eo, rfl, 1, rfl, eo, _, -1, .int la, rfl, rfl, SqL.of ee, hla, .int x.1, rfl, .ref sy, rfl, .int j, rfl, sy, _, j, .int z, rfl, rfl, SqL.of esy, ai, x.1, z, rfl, rfl, aw, la, x.1 * z, rfl, rfl, (by show 2 ≤ sizeLine; decide), fun l2 nl2 => ?_⟩
        have s2 := same_new (o := .lst [V.int (la + x.1 * z - z), .int (la + x.1 * z)]) nl2
        refine ⟨eo, l2, _, _, rfl, rfl, s2 _ _ ee, upd_same, ile (by simp; omega), fun li nli => ?_⟩
        refine ⟨_, _, _, _, _, li, es ++ [la + x.1 * z - z, la + x.1 * z], rfl, sx.trans (s2.trans (same_new nli)), hT.off (sx.free (s2.free nli)), ?_, by rw [List.length_append]; show 0 < es.length + 2; omega, by rw [List.length_append]; show es.length + 2 ≤ 1 + 2 * (i + 1); omega⟩
        rw [upd_same, List.map_append]
        rfl
      · obtain ⟨y5, y6, y7, y8, y9, eo, es, rfl, sx, neb, ee, l0, l1⟩ := hW
        rw [List.length_map, BA.len] at l1
        exact hX _ _ ⟨_, _, _, _, _, eo, es, rfl, sx, neb, ee, l0, by omega⟩
    obtain ⟨y5, y6, y7, y8, y9, eo, es, rfl, s1, neb, ee, l0, l1⟩ := hE
    have D1 := (Dr.start hT).same s1
    -- found
    refine ⟨.int count, rfl, count, 1, rfl, rfl, .ref b, rfl, .int count, rfl, b, n, count, rfl, D1.t, by omega, c0, c200, fun H2 r k2 T2 r0 r1 => ⟨(by show 3 ≤ sizeLine; decide), fun fo nfo => ?_⟩⟩
    have D2 := D1.draw k2 T2
    have fob : fo ≠ b := D2.off nfo
    have D3 := D2.same (same_new (o := .lst [V.int 0, .int (count - 1), .int r]) nfo)
    have ee3 : upd H2 fo (.lst [V.int 0, .int (count - 1), .int r]) eo = some (.lst (es.map V.int)) := (same_new nfo) _ _ (k2 _ _ neb ee)
    have ef3 : upd H2 fo (.lst [V.int 0, .int (count - 1), .int r]) fo = some (.lst ([0, count - 1, r].map V.int)) := upd_same
    revert D3 ee3 ef3
    generalize upd H2 fo (.lst [V.int 0, .int (count - 1), .int r]) = H3
    intro D3 ee3 ef3
    dsimp only [gName]
    refine ⟨.ref fo, rfl, _, rfl, by decide, by decide, fun D nD => ?_⟩
    have Db : D ≠ b := D3.off nD
    have nDH := D3.v D nD
    refine lc_it walk_range (fun k Hx => ∃ ys : List Int, Dr H b (n + 1 + 2 * k) Hx ∧ Hx eo = some (.lst (es.map V.int)) ∧ Hx fo = some (.lst ([0, count - 1, r].map V.int)) ∧ Hx D = some (.lst (ys.map V.int)) ∧ ys.length = k) ⟨[], D3.same (same_new nD), (same_new nD) _ _ ee3, (same_new nD) _ _ ef3, upd_same, rfl⟩ (fun _ _ _ _ => trivial) (fun k v Hy Hx hk hW hY => ?_) (fun Hx hW => ?_)
    · obtain ⟨ys, Dx, eex, efx, eDx, ly⟩ := hW
      obtain ⟨rfl, rfl⟩ := hY
      have hk3 : k < 3 := hk
      refine ⟨rfl, .ref eo, rfl, .ref b, rfl, .ref eo, rfl, eo, _, rfl, .inl (SqL.of eex), b, _, _, rfl, Dx.t, by omega, ?_, ?_, fun Ha ra ka Ta ra0 ra1 => ?_⟩
      · rw [List.length_map]
        omega
      · rw [List.length_map]
        exact Int.lt_of_le_of_lt (show (es.length : Int) ≤ 201 by omega) (by decide)
      rw [List.length_map] at ra1
      obtain ⟨e, he⟩ := at_some (l := es) (i := ra.toNat) (by omega)
      have hra : atI (es.map V.int) ra = some (.int e) := by
        rw [show ra = ((ra.toNat : Nat) : Int) by omega]
        exact atI_nat (by rw [List.getElem?_map, he]; rfl)
      have Da := Dx.draw ka Ta
      refine ⟨eo, _, ra, .int e, rfl, rfl, SqL.of (ka _ _ neb eex), hra, .ref b, rfl, b, _, 3, rfl, Ta, by omega, by decide, by decide, fun Hb rb kb Tb rb0 rb1 => ⟨_, _, rfl, rfl, _, _, rfl, rfl, ?_⟩⟩
      have Db' := Da.draw kb Tb
      have kab := ka.trans kb
      have Dne : eo ≠ D := fun z => by
        rw [z] at ee3
        rw [ee3] at nD
        cases nD
      have Dnf : fo ≠ D := fun z => by
        rw [z] at ef3
        rw [ef3] at nD
        cases nD
      refine ⟨_, kab _ _ Db eDx, ils (by rw [List.length_map]; omega), ys ++ [e + rb - 1], (Db'.mut nDH Db).more (by omega), (upd_ne Dne).trans (kab _ _ neb eex), (upd_ne Dnf).trans (kab _ _ fob efx), ?_, by rw [List.length_append, ly]; rfl⟩
      rw [upd_same, List.map_append]
      rfl
    · obtain ⟨ys, Dx, eex, efx, eDx, ly⟩ := hW
      refine ⟨fo, D, _, _, rfl, rfl, efx, eDx, ile (by simp; omega), fun li nli => ?_⟩
      have D4 := Dx.same (same_new (o := .lst ([0, count - 1, r].map V.int ++ ys.map V.int)) nli)
      have eli : upd Hx li (.lst ([0, count - 1, r].map V.int ++ ys.map V.int)) li = some (.lst (([0, count - 1, r] ++ ys).map V.int)) := by rw [upd_same, List.map_append]
      dsimp only [gName]
      refine ⟨.ref li, rfl, li, rfl, ⟨_, SqL.of eli⟩, fun R nR => ?_⟩
      refine lc_sel (A := [0, count - 1, r] ++ ys) (fun z => decide (0 ≤ z) && decide (z < count)) eli nR (by rw [List.length_append, ly]; show 6 ≤ 1000; decide) (fun z H' Q k => ?_) (fun z H' Q k => ⟨.int z, rfl, k⟩) (fun _ => rfl) fun Hi si ei => ?_
      · refine ⟨.int z, rfl, _, _, rfl, rfl, _, rfl, ?_⟩
        by_cases hz : 0 ≤ z
        · rw [decide_eq_true hz] at k ⊢
          exact ⟨.int count, rfl, _, _, rfl, rfl, _, rfl, k⟩
        · rw [decide_eq_false hz] at k ⊢
          exact ⟨_, rfl, k⟩
      · refine q Hi R _ ((D4.same si).more (by omega)) ei (D4.v R nR) (fun x m => ?_) ?_
        · have := (List.mem_filter.mp m).2
          rw [Bool.and_eq_true] at this
          exact ⟨of_decide_eq_true this.1, of_decide_eq_true this.2⟩
        · refine Nat.le_trans (List.length_filter_le _ _) ?_
          rw [List.length_append, ly]
          show 6 ≤ 10
          decide
end
end El
namespace El
open PySem PySem.Spec PyProof.Rows L2
section
variable {P : Program} {w : World} {K : PySem.W.Frag} {mg : Str → Option Value} {base : Heap}
abbrev s__law_right : Stmt := topS 23
abbrev N__law_right : List Str := ["pot", "lot", "alike", "turn", "at", "ahead", "place", "count", "bears"]
abbrev P__law_right : List Str := ["pot"]
theorem sc__law_right : FnScope N__law_right P__law_right (defScope s__law_right) := ⟨rfl, rfl, rfl, by decide +kernel, rfl, by decide +kernel, by decide +kernel⟩
theorem Lots.crw {wide : Int} {cs : List (Int × Int)} (h : Lots wide cs) : Crw cs := fun c m => ⟨(h c m).1.1, (h c m).2.1⟩
theorem Lots.big {cs : List (Int × Int)} (h : Lots (10 ^ 30 - 1) cs) : ∀ c ∈ cs, c.1 < 2 ^ 150 ∧ c.2 < 2 ^ 150 := fun c m => ⟨Int.lt_of_le_of_lt (h c m).1.2 (by decide), Int.lt_of_le_of_lt (h c m).2.2 (by decide)⟩
theorem Lots.nng {wide : Int} {cs : List (Int × Int)} (h : Lots wide cs) : Nng cs := fun c m => ⟨by have := (h c m).1.1; omega, (h c m).2.1⟩
theorem BlkTo.lims {cs ds : List (Int × Int)} {bl : List (Int × List Int)} (n : Nng cs) (k : ∀ c ∈ cs, c.1 < 2 ^ 150) (h : BlkTo cs bl ds) {j : Nat} (hj : j < cs.length) : ∀ x ∈ bl, (0 ≤ x.1 ∧ x.1 < 2 ^ 150) ∧ ∃ s, x.2[j]? = some s ∧ 0 ≤ s ∧ s < 2 ^ 150 := fun x m => by
  obtain ⟨i, e⟩ := List.mem_iff_getElem?.mp m
  obtain ⟨es, B, _, hb⟩ := h.part i (by have := at_lt e; omega)
  obtain ⟨h2, ht, m1, ok⟩ := hb x e
  have nn := B.nng n
  have tp := B.tops (W := 2 ^ 150 - 1) fun c m => by have := k c m; omega
  have hm := okm_top m1 ok (stv_some nn ht) tp
  obtain ⟨s, es'⟩ := at_some (l := stv 0 es) (i := j) (by rw [stv_len, B.len]; exact hj)
  have hs := stv_le_top nn tp es'
  exact ⟨⟨by omega, by omega⟩, s, by rw [h2]; exact es', hs.1, by omega⟩
theorem allOf_part {pre post : List (Int × Int)} {c : Int × Int} (h : Crw (pre ++ c :: post)) : allOf pre + c.1 ≤ allOf (pre ++ c :: post) := by
  have e : allOf (pre ++ c :: post) = allOf pre + (c.1 + allOf post) := by
    unfold allOf
    rw [List.map_append, List.sum_append, List.map_cons, List.sum_cons]
  have hp : ∀ {L : List (Int × Int)}, Crw L → 0 ≤ allOf L := fun {L} => by
    induction L with
    | nil => exact fun _ => Int.le_refl _
    | cons x L ih =>
      intro k
      have h1 := (k x List.mem_cons_self).1
      have h2 := ih fun y m => k y (List.mem_cons_of_mem _ m)
      have e : allOf (x :: L) = x.1 + allOf L := List.sum_cons
      omega
  have := hp (L := post) fun y m => h y (List.mem_append_right _ (List.mem_cons_of_mem _ m))
  omega
def sp__law_right : Sp := fun vs H Q _ => ∃ (b : Addr) (n : Nat), vs = [.ref b] ∧ Pot H b n ∧ n ≤ 100000 ∧ ∀ H', Kp (fun z => z ≠ b) H H' → Pot H' b (n + 1000) → Q (.bl true) H'
theorem ok__law_right (A : At K mg "_law_right" P__law_right s__law_right) (B : Bi mg) (D__law_draw : Df P w K mg base 1 "_law_draw" P__law_draw s__law_draw sp__law_draw) (D__law_one_crowd : Df P w K mg base 2 "_law_one_crowd" P__law_one_crowd s__law_one_crowd sp__law_one_crowd) (D__law_lot : Df P w K mg base 3 "_law_lot" P__law_lot s__law_lot sp__law_lot) (D__law_alike_rooms : Df P w K mg base 1 "_law_alike_rooms" P__law_alike_rooms s__law_alike_rooms sp__law_alike_rooms)
    (D__law_room : Df P w K mg base 1 "_law_room" P__law_room s__law_room sp__law_room) (D__law_spots : Df P w K mg base 2 "_law_spots" P__law_spots s__law_spots sp__law_spots) (D_room_of : Df P w K mg base 4 "room_of" P_room_of s_room_of sp_room_of) : Df P w K mg base 5 "_law_right" P__law_right s__law_right sp__law_right := by
  refine A.df fun f fd F => F.ok sc__law_right (fun vs H Q E h => ?_) (fun cdv AA outer s H vs Q E hr h => ?_)
  · obtain ⟨_, _, rfl, _⟩ := h
    rfl
  · obtain ⟨b, n, rfl, hT, hn, q⟩ := h
    have nd := sc__law_right.nd
    refine ⟨_, (pss_cons (ps_set (i := 1) nd rfl (.inl rfl) (pe_df D__law_lot (hr.mono (by decide)) (by rfl) (pa_cons (pv 0) (pa_cons (pe_ix ix_list (pe_lst (pa_cons pe_int (pa_cons pe_int pa_nil))) (pe_df D__law_draw (hr.mono (by decide)) (by rfl) (pa_cons (pv 0) (pa_cons pe_int pa_nil))) (fun _ _ => rfl)) (pa_cons (pe_op op_sub (pe_op op_pow pe_int pe_int) pe_int) pa_nil)))))
    (pss_cons (ps_expr (pe_bm PySem.F.plainAttrs_list PySem.F.slot_list_append PySem.F.type_list_append mt_append (pv 1) (pa_cons (pe_df D__law_one_crowd (hr.mono (by decide)) (by rfl) (pa_cons (pv 0) (pa_cons pe_int (pa_cons (pe_op op_sub (pe_op op_pow pe_int pe_int) pe_int) pa_nil)))) pa_nil)))
    (pss_cons (ps_set (i := 2) nd rfl (.inl rfl) (pe_df D__law_alike_rooms (hr.mono (by decide)) (by rfl) (pa_cons (pv 1) pa_nil)))
    (pss_cons (ps_for PassesOwn.never rfl (pi_range1 (by rfl) B.range (pa_cons (pe_callB (call_min2 rfl) (by rfl) B.min (by decide +kernel) (pa_cons pe_int (pa_cons (pe_callB call_len_seq (by rfl) B.len PySem.boot_len (pa_cons (pv 1) pa_nil)) pa_nil))) pa_nil)) (pg_name (i := 3) nd rfl (.inl rfl)) (pss_cons (ps_set (i := 4) nd rfl (.inl rfl) (pe_ix ix_list (pe_lst (pa_cons (pv 3) (pa_cons (pe_df D__law_draw (hr.mono (by decide)) (by rfl) (pa_cons (pv 0) (pa_cons (pe_callB call_len_seq (by rfl) B.len PySem.boot_len (pa_cons (pv 1) pa_nil)) pa_nil))) pa_nil))) (pe_callTy call_int1 (by rfl) B.int_ (by decide +kernel) (pa_cons (pe_cmpR op_gt (pe_callB call_len_seq (by rfl) B.len PySem.boot_len (pa_cons (pv 1) pa_nil)) pe_int (nomark _)) pa_nil)) (fun _ _ => rfl))) (pss_cons (ps_set (i := 5) nd rfl (.inl rfl) (pe_callB (cr_sum rfl) (by rfl) B.sum (by decide +kernel) (pa_cons (pe_lc (own := [("count", 7), ("bears", 8)]) (tt := tYes) rfl nd (pi_list (pe_slice sl_list (pv 1) po_none (po_some (pv 4)))) (blkOk_by (N := N__law_right) (sc := defScope s__law_right) (by decide +kernel)) (fun _ _ _ _ _ => (pgTupK K 2 (by rfl) (pgs_cons (pg_name (i := 7) nd rfl (.inl rfl)) (pgs_cons (pg_name (i := 8) nd rfl (.inl rfl)) pgs_nil)))) (fun _ _ _ _ _ => pts_nil) (fun _ _ _ _ _ => (pv 7))) pa_nil))) (pss_one (ps_for PassesOwn.never rfl (pi_list (pe_df D__law_spots (hr.mono (by decide)) (by rfl) (pa_cons (pv 0) (pa_cons (pv 2) (pa_cons (pv 4) (pa_cons (pe_ix ix_tup (pe_ix ix_list (pv 1) (pv 4) (fun _ _ => rfl)) pe_int (fun _ _ => rfl)) pa_nil)))))) (pg_name (i := 6) nd rfl (.inl rfl)) (pss_one (ps_if (pt_cmpR op_ne (pe_df D_room_of (hr.mono (by decide)) (by rfl) (pa_cons (pv 1) (pa_cons (pe_op op_add (pe_op op_add (pv 5) (pv 6)) pe_int) pa_nil))) (pe_df D__law_room (hr.mono (by decide)) (by rfl) (pa_cons (pv 2) (pa_cons (pv 4) (pa_cons (pv 6) pa_nil)))) (nomark _)) (pss_one (ps_ret pe_bl)) pss_nil)))))))
    (pss_one (ps_ret pe_bl)))))), ?_⟩
    have e30 : (10 : Int) ^ Int.toNat 30 - 1 = 10 ^ 30 - 1 := by decide
    have w6 : (6 : Int) ≤ 10 ^ Int.toNat 30 - 1 := by decide
    have w1 : (10 : Int) ^ Int.toNat 30 - 1 < 2 ^ 150 := by decide
    have nb : ∀ z, H z = none → z ≠ b := fun z e => hT.off e
    -- lot
    refine ⟨.ref b, rfl, (by show 2 ≤ sizeLine; decide), fun p np => ⟨.ref b, rfl, b, n, 2, rfl, hT.same (same_new np), by omega, by decide, by decide, fun H1 r1 k1 T1 r10 r11 => ?_⟩⟩
    have D1 := ((Dr.start hT).same (same_new (o := .lst [.int 4, .int 39]) np)).draw k1 T1
    have pb : p ≠ b := hT.off np
    obtain ⟨v, hv, v0, v39⟩ := pick2 (P := fun v => 0 ≤ v ∧ v ≤ 39) r10 r11 (a := 4) (b := 39) ⟨by decide, by decide⟩ ⟨by decide, by decide⟩
    refine ⟨p, _, _, .int v, rfl, rfl, SqL.of (k1 _ _ pb upd_same), hv, _, _, rfl, rfl, ⟨by decide, by decide, by decide⟩, _, _, rfl, rfl, b, _, v, _, rfl, T1, by omega, v0, by omega, w6, w1, fun H2 lo us0 cs0 D2 G2 l2 LL0 => ?_⟩
    rw [e30] at LL0
    have lcs0 : cs0.length ≤ 39 := by omega
    have D12 := D1.draw D2.k D2.t
    have GL2 : GsAt H2 (fun z => H z = none) lo us0 cs0 := G2.reB fun z _ e => D1.v z e
    have nlo : H lo = none := GL2.ba
    have lob : lo ≠ b := nb lo nlo
    dsimp only [gName]
    -- one more crowd
    refine ⟨.ref lo, rfl, .inl ⟨rfl, _, GL2.seq⟩, .ref b, rfl, _, _, rfl, rfl, ⟨by decide, by decide, by decide⟩, _, _, rfl, rfl, b, _, 2, _, rfl, D12.t, by omega, by decide, w6, w1, fun Hc T c Dc nT eT hcc => ?_⟩
    rw [e30] at hcc
    have Gc := GL2.keep (Dc.k.weak nb)
    have Dc' := D12.draw Dc.k Dc.t
    have nT0 : H T = none := D12.v T nT
    have hD : lo ∉ us0 := off_tops Gc
    refine ⟨lo, _, .ref T, rfl, rfl, Gc.top, ils (by rw [List.length_map, Gc.len]; omega), ?_⟩
    have GL := Gc.push hD (q := T) (g := c) eT nT0
    have D3 := (Dc'.mut (o := .lst (us0.map V.ref ++ [.ref T])) nlo lob).more (m := n + 700) (by omega)
    have LL : Lots (10 ^ 30 - 1) (cs0 ++ [c]) := fun x m => (List.mem_append.mp m).elim (LL0 x) fun m => by
      rw [List.mem_singleton.mp m]
      exact hcc
    have lcs : (cs0 ++ [c]).length ≤ 40 ∧ 1 ≤ (cs0 ++ [c]).length := by
      rw [List.length_append]
      show cs0.length + 1 ≤ 40 ∧ 1 ≤ cs0.length + 1
      omega
    revert GL D3 LL lcs
    generalize upd Hc lo (.lst (us0.map V.ref ++ [.ref T])) = H3
    generalize cs0 ++ [c] = cs
    generalize us0 ++ [T] = us
    intro GL D3 LL lcs
    obtain ⟨lcs, lcs1⟩ := lcs
    have cc := LL.crw
    have cb := LL.big
    have nn := LL.nng
    have cb1 : ∀ c ∈ cs, c.1 < 2 ^ 150 := fun c m => (cb c m).1
    -- alike
    refine ⟨.ref lo, rfl, _, lo, us, cs, rfl, GL, by omega, nn, cb1, fun H4 al aus bl ds s4 nal BA BT t0 lbl => ?_⟩
    dsimp only [gName]
    have D4 := D3.same s4
    have GL4 := GL.same s4
    have BA4 : BlkAt H4 (fun z => H z = none) al aus bl := BA.wide fun z e => D3.v z e
    have nal0 : H al = none := D3.v al nal
    refine seq_to (fun σ Hx => ∃ y3 y4 y5 y6 y7 y8, σ = [some (.ref b), some (.ref lo), some (.ref al), y3, y4, y5, y6, y7, y8] ∧ Dr H b (n + 1000) Hx) (fun X hX => ?_) (fun σ Hx hE => ?_)
    · refine ⟨.ref lo, rfl, lo, _, rfl, .inl GL4.seq, _, _, rfl, _, rfl, ?_, ?_, ?_⟩
      · split <;> omega
      · split <;> omega
      refine for_it walk_range (fun i σ Hx => ∃ (y3 y4 y5 y6 y7 y8 : Option V), σ = [some (.ref b), some (.ref lo), some (.ref al), y3, y4, y5, y6, y7, y8] ∧ Dr H4 b (n + 700 + 30 * i) Hx)
        ⟨_, _, _, _, _, _, rfl, Dr.start D4.t⟩ (fun _ _ _ _ _ => trivial) (fun i x σ Hx Hy hi hW hY => ?_) (fun σ Hx hW => ?_)
      · obtain ⟨y3, y4, y5, y6, y7, y8, rfl, Dx⟩ := hW
        obtain ⟨rfl, rfl⟩ := hY
        have hi8 : i < 8 ∧ i < cs.length := by
          rw [List.length_map, GL4.len] at hi
          revert hi
          split <;> omega
        have keepG : ∀ {Hz : Hp} {m : Nat}, Dr H4 b m Hz → GsAt Hz (fun z => H z = none) lo us cs := fun D => GL4.keep (D.k.weak nb)
        have keepB : ∀ {Hz : Hp} {m : Nat}, Dr H4 b m Hz → BlkAt Hz (fun z => H z = none) al aus bl := fun D => BA4.keep nal0 (D.k.weak nb)
        have Gx := keepG Dx
        have llen : (us.map V.ref).length = cs.length := by rw [List.length_map, GL4.len]
        have e0 : (fun i : Nat => V.int (0 + (i : Int))) i = .int i := by
          show V.int (0 + (i : Int)) = _
          rw [Int.zero_add]
        rw [e0]
        -- at
        refine ⟨.int i, rfl, .ref b, rfl, .ref lo, rfl, lo, _, rfl, .inl Gx.seq, b, _, _, rfl, Dx.t, by omega, ?_, ?_, fun Ha r ka Ta r0 r1 => ⟨(by show 2 ≤ sizeLine; decide), fun lq nlq => ?_⟩⟩
        · omega
        · exact Int.lt_of_le_of_lt (show (((us.map V.ref).length : Nat) : Int) ≤ 40 by omega) (by decide)
        have Da := Dx.draw ka Ta
        have Da' := Da.same (same_new (o := .lst [V.int i, .int r]) nlq)
        rw [llen] at r1
        refine ⟨.ref lo, rfl, lo, _, rfl, .inl (keepG Da').seq, _, _, rfl, rfl, ?_⟩
        obtain ⟨j, hj, jl⟩ : ∃ j : Nat, atI [V.int i, V.int r] (if decide ((8 : Int) < (((us.map V.ref).length : Nat) : Int)) = true then 1 else 0) = some (.int (j : Int)) ∧ j < cs.length := by
          generalize decide ((8 : Int) < (((us.map V.ref).length : Nat) : Int)) = kk
          cases kk
          · exact ⟨i, rfl, hi8.2⟩
          · refine ⟨r.toNat, ?_, by omega⟩
            rw [show ((r.toNat : Nat) : Int) = r by omega]
            rfl
        refine .inr ⟨_, rfl, lq, _, _, .int (j : Int), rfl, rfl, SqL.of upd_same, hj, ?_⟩
        have hj := ()
        revert Da'
        generalize upd Ha lq (.lst [V.int i, .int r]) = Hb
        intro Da'
        dsimp only [gName]
        -- ahead
        have Gb := keepG Da'
        refine ⟨.ref lo, rfl, .int (j : Int), rfl, _, rfl, lo, _, rfl, Gb.seq, fun p2 np2 => ?_⟩
        rw [cut_to]
        have sp2 := same_new (o := .lst ((us.map V.ref).take j)) np2
        refine ⟨p2, rfl, ⟨_, SqL.of upd_same⟩, fun D nD => ?_⟩
        have Gp := Gb.same sp2
        have ltk : ((us.map V.ref).take j).length = j := by
          rw [List.length_take, llen]
          omega
        refine lc_it (walk_list (xs := (us.map V.ref).take j)) (fun k H2 => Same (upd Hb p2 (.lst ((us.map V.ref).take j))) H2 ∧ H2 D = some (.lst (((cs.take k).map (·.1)).map V.int))) ⟨same_new nD, upd_same⟩ (fun k H2 _ hW => SqL.of (hW.1 _ _ upd_same)) (fun k v H2 H3' hk hW hY => ?_) (fun H2 hW => ?_)
        · obtain ⟨sm, e⟩ := hW
          obtain ⟨rfl, hx⟩ := hY
          rw [ltk] at hk
          have hx : ((us.map V.ref).take j)[k]? = some v := hx
          rw [List.getElem?_take, if_pos hk] at hx
          obtain ⟨t1, c1, rfl, ec1, et1⟩ := (Gp.same sm).get hx
          refine ⟨t1, _, rfl, SqT.of et1, rfl, .int c1.1, _, rfl, .int c1.2, _, rfl, rfl, rfl, .int c1.1, rfl, _, e, ils (by rw [List.length_map, List.length_map, List.length_take]; omega), Same.mut sm nD, ?_⟩
          rw [upd_same, take_snoc ec1, List.map_append, List.map_append]
          rfl
        obtain ⟨sm, eD⟩ := hW
        rw [ltk] at eD
        refine ⟨D, _, rfl, SqL.of eD, ?_⟩
        have Dc := (Da'.same sp2).same sm
        dsimp only [gName]
        have eall : ((cs.take j).map (·.1)).sum = allOf (cs.take j) := rfl
        rw [eall]
        -- spots
        obtain ⟨c, ec⟩ := at_some jl
        obtain ⟨t, et⟩ := at_some (l := us) (i := j) (by rw [GL4.len]; exact jl)
        have Gd := keepG Dc
        have mc := LL c (List.mem_of_getElem? ec)
        have c150 : c.1 < 2 ^ 150 := cb1 c (List.mem_of_getElem? ec)
        refine ⟨.ref b, rfl, .ref al, rfl, .int j, rfl, .ref lo, rfl, .int j, rfl, lo, _, j, .ref t, rfl, rfl, Gd.seq, atI_nat (by rw [List.getElem?_map, et]; rfl), t, _, 0, .int c.1, rfl, rfl, SqT.of (Gd.at' j t c et ec), rfl, b, al, _, aus, bl, j, _, c.1, rfl, Dc.t, by omega, keepB Dc, by omega, BT.lims nn cb1 jl, by omega, c150, fun Hs sq xs Ds eq nq hxs lxs => ?_⟩
        have Dd := Dc.draw Ds.k Ds.t
        refine ⟨sq, rfl, ⟨_, SqL.of eq⟩, ?_⟩
        refine for_it (walk_list (xs := xs.map V.int)) (fun k σ Hz => ∃ (y3 y6 y7 y8 : Option V), σ = [some (.ref b), some (.ref lo), some (.ref al), y3, some (.int j), some (.int (allOf (cs.take j))), y6, y7, y8] ∧ Same Hs Hz)
          ⟨_, _, _, _, rfl, fun _ _ e => e⟩ (fun k σ Hz _ hW => ?_) (fun k v σ Hz Hy hk hW hY => ?_) (fun σ Hz hW => ?_)
        · obtain ⟨_, _, _, _, _, sz⟩ := hW
          exact SqL.of (sz _ _ eq)
        · obtain ⟨y3, y6, y7, y8, rfl, sz⟩ := hW
          obtain ⟨rfl, hx⟩ := hY
          obtain ⟨z, ez, rfl⟩ := ints_at hx
          have hz := hxs z (List.mem_of_getElem? ez)
          have Dz := Dd.same sz
          have ecs : cs = cs.take j ++ c :: cs.drop (j + 1) := by
            obtain ⟨hj', ej'⟩ := List.getElem?_eq_some_iff.mp ec
            rw [← ej', ← List.drop_eq_getElem_cons hj', List.take_append_drop]
          have cpre : Crw (cs.take j) := fun x m => cc x (List.mem_of_mem_take m)
          have hle : allOf (cs.take j) + c.1 ≤ allOf cs := by
            have h := allOf_part (pre := cs.take j) (post := cs.drop (j + 1)) (c := c) (by rw [← ecs]; exact cc)
            rw [← ecs] at h
            exact h
          have h0 : 0 ≤ allOf (cs.take j) := by
            rw [← lotP_all cpre]
            omega
          have hmid : rmOf [] cs (allOf (cs.take j) + z + 1) = rnE c.2 (z + 1) (fld (cs.take j) []) := by
            have h := rmOf_mid (pre := cs.take j) (post := cs.drop (j + 1)) (c := c) (L := []) (m := z + 1) cpre (by omega) (by omega)
            rw [← ecs] at h
            rw [show allOf (cs.take j) + z + 1 = allOf (cs.take j) + (z + 1) by omega, h]
            rfl
          refine ⟨.ref lo, rfl, .int _, rfl, .int z, rfl, _, _, rfl, rfl, _, _, rfl, rfl, _, lo, us, cs, _, rfl, keepG Dz, cc, cb, by omega, by omega, by omega, fun Hr sr => ?_⟩
          refine ⟨.ref al, rfl, .int j, rfl, .int z, rfl, _, al, aus, cs, ds, bl, j, c, z, rfl, keepB (Dz.same sr), BT, t0, nn, cb1, ec, hz.1, hz.2, rfl, _, rfl, ?_⟩
          rw [hmid, nd_self]
          exact ifNo rfl ⟨_, _, _, _, rfl, sz.trans sr⟩
        · obtain ⟨y3, y6, y7, y8, rfl, sz⟩ := hW
          exact ⟨_, _, _, _, _, _, rfl, (Dd.same sz).more (by omega)⟩
      · obtain ⟨y3, y4, y5, y6, y7, y8, rfl, Dx⟩ := hW
        refine hX _ _ ⟨_, _, _, _, _, _, rfl, (D4.draw Dx.k Dx.t).more ?_⟩
        split <;> omega
    · obtain ⟨y3, y4, y5, y6, y7, y8, rfl, Dx⟩ := hE
      exact q Hx Dx.k Dx.t
end
end El
namespace El
open PySem PySem.Spec PyProof.Rows L2
section
variable {P : Program} {w : World} {K : PySem.W.Frag} {mg : Str → Option Value} {base : Heap}
abbrev s_law : Stmt := topS 24
abbrev N_law : List Str := ["script", "at", "pot"]
abbrev P_law : List Str := ["script"]
theorem sc_law : FnScope N_law P_law (defScope s_law) := ⟨rfl, rfl, rfl, by decide +kernel, rfl, by decide +kernel, by decide +kernel⟩
def sp_law (K : PySem.W.Frag) : Sp := fun vs H Q _ => ∃ (a : Addr) (ns : List Int), vs = [.ref a] ∧ SqL K H a (ns.map V.int) ∧ ns.length ≤ 63 ∧ ∀ H', Q (.bl true) H'
theorem ok_law (A : At K mg "law" P_law s_law) (B : Bi mg) (D__law_pot : Df P w K mg base 1 "_law_pot" P__law_pot s__law_pot (sp__law_pot K)) (D__law_right : Df P w K mg base 5 "_law_right" P__law_right s__law_right sp__law_right) : Df P w K mg base 6 "law" P_law s_law (sp_law K) := by
  refine A.df fun f fd F => F.ok sc_law (fun vs H Q E h => ?_) (fun cdv AA outer s H vs Q E hr h => ?_)
  · obtain ⟨_, _, rfl, _⟩ := h
    rfl
  · obtain ⟨a, ns, rfl, hS, hl, q⟩ := h
    have nd := sc_law.nd
    refine ⟨_, (pss_cons (ps_for PassesOwn.never rfl (pi_range1 (by rfl) B.range (pa_cons (pe_callB (call_max2 rfl) (by rfl) B.max (by decide +kernel) (pa_cons pe_int (pa_cons (pe_callB (call_min2 rfl) (by rfl) B.min (by decide +kernel) (pa_cons pe_int (pa_cons (pe_callB call_len_seq (by rfl) B.len PySem.boot_len (pa_cons (pv 0) pa_nil)) pa_nil))) pa_nil))) pa_nil)) (pg_name (i := 1) nd rfl (.inl rfl)) (pss_cons (ps_set (i := 2) nd rfl (.inl rfl) (pe_df D__law_pot (hr.mono (by decide)) (by rfl) (pa_cons (pv 0) (pa_cons (pv 1) pa_nil)))) (pss_one (ps_if (pt_not (pt_val (pe_df D__law_right (hr.mono (by decide)) (by rfl) (pa_cons (pv 2) pa_nil)))) (pss_one (ps_ret pe_bl)) pss_nil))))
    (pss_one (ps_ret pe_bl))), ?_⟩
    refine ⟨.ref a, rfl, a, _, rfl, .inl hS, _, _, rfl, _, _, rfl, _, rfl, ?_, ?_, ?_⟩
    · split <;> split <;> omega
    · split <;> split <;> omega
    refine for_it walk_range (fun i σ H2 => ∃ y1 y2, σ = [some (.ref a), y1, y2] ∧ Same H H2) ⟨_, _, rfl, fun _ _ e => e⟩ (fun _ _ _ _ _ => trivial) (fun i x σ H2 H3 hi hW hY => ?_) (fun σ H2 hW => ?_)
    · obtain ⟨y1, y2, rfl, s2⟩ := hW
      obtain ⟨rfl, rfl⟩ := hY
      have hi5 : i < 6 := by
        revert hi
        split <;> split <;> omega
      refine ⟨.ref a, rfl, .int (0 + (i : Int)), rfl, a, ns, i, by rw [Int.zero_add]; rfl, s2.seq hS, by omega, fun H4 b s4 nb T4 => ?_⟩
      dsimp only [gName]
      refine ⟨.ref b, rfl, b, _, rfl, T4, by omega, fun H7 k7 T7 => ⟨_, rfl, ?_⟩⟩
      refine ifNo rfl ?_
      have nb0 : H b = none := s2.free nb
      exact ⟨_, _, rfl, fun z u e => k7 z u (fun y => by rw [y, nb0] at e; cases e) (s4 z u (s2 z u e))⟩
    · obtain ⟨y1, y2, rfl, s2⟩ := hW
      exact q H2
end
end El
namespace El
open PySem PySem.Spec PyProof.Rows L2
theorem all_mk {l : PySem.W.OpenLaw} {w : World} {K : PySem.W.Frag} {h : Heap} {mg : Str → Option Value} {fa f1 f2 f3 f4 f5 f6 f7 f8 f9 f10 f11 f12 f13 f14 f15 f16 : Addr} (X : K.In h) (G : h.Ns mainGlobals mg) (hfa : mg "law" = some (.ref fa))
    {od1 an1 od2 an2 od3 an3 od4 an4 od5 an5 od6 an6 od7 an7 od8 an8 od9 an9 od10 an10 od11 an11 od12 an12 od13 an13 od14 an14 od15 an15 od16 an16 : Option Addr} {sl1 sl2 sl3 sl4 sl5 sl6 sl7 sl8 sl9 sl10 sl11 sl12 sl13 sl14 sl15 sl16 : Array (Option Value)} {oc1 kV1 dc1 pm1 cd1 ct1 oc2 kV2 dc2 pm2 cd2 ct2 oc3 kV3 dc3 pm3 cd3 ct3 oc4 kV4 dc4 pm4 cd4 ct4 oc5 kV5 dc5 pm5 cd5 ct5 oc6 kV6 dc6 pm6 cd6 ct6 oc7 kV7 dc7 pm7 cd7 ct7 oc8 kV8 dc8 pm8 cd8 ct8 oc9 kV9 dc9 pm9 cd9 ct9 oc10 kV10 dc10 pm10 cd10 ct10 oc11 kV11 dc11 pm11 cd11 ct11 oc12 kV12 dc12 pm12 cd12 ct12 oc13 kV13 dc13 pm13 cd13 ct13 oc14 kV14 dc14 pm14 cd14 ct14 oc15 kV15 dc15 pm15 cd15 ct15 oc16 kV16 dc16 pm16 cd16 ct16 : Value}
    (a1 : PySem.W.nsIn K mainGlobals "is_crowd" = some (some (.ref f1))) (l1 : K.lookup f1 = some ⟨oc1, od1, .func (PySem.W.fnOf "is_crowd" "is_crowd" (defArgs s_is_crowd) (defBody s_is_crowd) (defScope s_is_crowd) .none kV1 dc1 pm1 an1 cd1 ct1), sl1⟩) (c1 : PySem.W.codeIn K cd1 "is_crowd" = true) (k1 : PySem.W.keepIn K (.ref f1) = true)
    (a2 : PySem.W.nsIn K mainGlobals "check_crowds" = some (some (.ref f2))) (l2 : K.lookup f2 = some ⟨oc2, od2, .func (PySem.W.fnOf "check_crowds" "check_crowds" (defArgs s_check_crowds) (defBody s_check_crowds) (defScope s_check_crowds) .none kV2 dc2 pm2 an2 cd2 ct2), sl2⟩) (c2 : PySem.W.codeIn K cd2 "check_crowds" = true) (k2 : PySem.W.keepIn K (.ref f2) = true)
    (a3 : PySem.W.nsIn K mainGlobals "places" = some (some (.ref f3))) (l3 : K.lookup f3 = some ⟨oc3, od3, .func (PySem.W.fnOf "places" "places" (defArgs s_places) (defBody s_places) (defScope s_places) .none kV3 dc3 pm3 an3 cd3 ct3), sl3⟩) (c3 : PySem.W.codeIn K cd3 "places" = true) (k3 : PySem.W.keepIn K (.ref f3) = true)
    (a4 : PySem.W.nsIn K mainGlobals "grown_rooms" = some (some (.ref f4))) (l4 : K.lookup f4 = some ⟨oc4, od4, .func (PySem.W.fnOf "grown_rooms" "grown_rooms" (defArgs s_grown_rooms) (defBody s_grown_rooms) (defScope s_grown_rooms) .none kV4 dc4 pm4 an4 cd4 ct4), sl4⟩) (c4 : PySem.W.codeIn K cd4 "grown_rooms" = true) (k4 : PySem.W.keepIn K (.ref f4) = true)
    (a5 : PySem.W.nsIn K mainGlobals "after_crowd" = some (some (.ref f5))) (l5 : K.lookup f5 = some ⟨oc5, od5, .func (PySem.W.fnOf "after_crowd" "after_crowd" (defArgs s_after_crowd) (defBody s_after_crowd) (defScope s_after_crowd) .none kV5 dc5 pm5 an5 cd5 ct5), sl5⟩) (c5 : PySem.W.codeIn K cd5 "after_crowd" = true) (k5 : PySem.W.keepIn K (.ref f5) = true)
    (a6 : PySem.W.nsIn K mainGlobals "room_of_nth" = some (some (.ref f6))) (l6 : K.lookup f6 = some ⟨oc6, od6, .func (PySem.W.fnOf "room_of_nth" "room_of_nth" (defArgs s_room_of_nth) (defBody s_room_of_nth) (defScope s_room_of_nth) .none kV6 dc6 pm6 an6 cd6 ct6), sl6⟩) (c6 : PySem.W.codeIn K cd6 "room_of_nth" = true) (k6 : PySem.W.keepIn K (.ref f6) = true)
    (a7 : PySem.W.nsIn K mainGlobals "room_of" = some (some (.ref f7))) (l7 : K.lookup f7 = some ⟨oc7, od7, .func (PySem.W.fnOf "room_of" "room_of" (defArgs s_room_of) (defBody s_room_of) (defScope s_room_of) .none kV7 dc7 pm7 an7 cd7 ct7), sl7⟩) (c7 : PySem.W.codeIn K cd7 "room_of" = true) (k7 : PySem.W.keepIn K (.ref f7) = true)
    (a8 : PySem.W.nsIn K mainGlobals "_law_pot" = some (some (.ref f8))) (l8 : K.lookup f8 = some ⟨oc8, od8, .func (PySem.W.fnOf "_law_pot" "_law_pot" (defArgs s__law_pot) (defBody s__law_pot) (defScope s__law_pot) .none kV8 dc8 pm8 an8 cd8 ct8), sl8⟩) (c8 : PySem.W.codeIn K cd8 "_law_pot" = true) (k8 : PySem.W.keepIn K (.ref f8) = true)
    (a9 : PySem.W.nsIn K mainGlobals "_law_draw" = some (some (.ref f9))) (l9 : K.lookup f9 = some ⟨oc9, od9, .func (PySem.W.fnOf "_law_draw" "_law_draw" (defArgs s__law_draw) (defBody s__law_draw) (defScope s__law_draw) .none kV9 dc9 pm9 an9 cd9 ct9), sl9⟩) (c9 : PySem.W.codeIn K cd9 "_law_draw" = true) (k9 : PySem.W.keepIn K (.ref f9) = true)
    (a10 : PySem.W.nsIn K mainGlobals "_law_one_crowd" = some (some (.ref f10))) (l10 : K.lookup f10 = some ⟨oc10, od10, .func (PySem.W.fnOf "_law_one_crowd" "_law_one_crowd" (defArgs s__law_one_crowd) (defBody s__law_one_crowd) (defScope s__law_one_crowd) .none kV10 dc10 pm10 an10 cd10 ct10), sl10⟩) (c10 : PySem.W.codeIn K cd10 "_law_one_crowd" = true) (k10 : PySem.W.keepIn K (.ref f10) = true)
    (a11 : PySem.W.nsIn K mainGlobals "_law_lot" = some (some (.ref f11))) (l11 : K.lookup f11 = some ⟨oc11, od11, .func (PySem.W.fnOf "_law_lot" "_law_lot" (defArgs s__law_lot) (defBody s__law_lot) (defScope s__law_lot) .none kV11 dc11 pm11 an11 cd11 ct11), sl11⟩) (c11 : PySem.W.codeIn K cd11 "_law_lot" = true) (k11 : PySem.W.keepIn K (.ref f11) = true)
    (a12 : PySem.W.nsIn K mainGlobals "_law_alike_rooms" = some (some (.ref f12))) (l12 : K.lookup f12 = some ⟨oc12, od12, .func (PySem.W.fnOf "_law_alike_rooms" "_law_alike_rooms" (defArgs s__law_alike_rooms) (defBody s__law_alike_rooms) (defScope s__law_alike_rooms) .none kV12 dc12 pm12 an12 cd12 ct12), sl12⟩) (c12 : PySem.W.codeIn K cd12 "_law_alike_rooms" = true) (k12 : PySem.W.keepIn K (.ref f12) = true)
    (a13 : PySem.W.nsIn K mainGlobals "_law_room" = some (some (.ref f13))) (l13 : K.lookup f13 = some ⟨oc13, od13, .func (PySem.W.fnOf "_law_room" "_law_room" (defArgs s__law_room) (defBody s__law_room) (defScope s__law_room) .none kV13 dc13 pm13 an13 cd13 ct13), sl13⟩) (c13 : PySem.W.codeIn K cd13 "_law_room" = true) (k13 : PySem.W.keepIn K (.ref f13) = true)
    (a14 : PySem.W.nsIn K mainGlobals "_law_spots" = some (some (.ref f14))) (l14 : K.lookup f14 = some ⟨oc14, od14, .func (PySem.W.fnOf "_law_spots" "_law_spots" (defArgs s__law_spots) (defBody s__law_spots) (defScope s__law_spots) .none kV14 dc14 pm14 an14 cd14 ct14), sl14⟩) (c14 : PySem.W.codeIn K cd14 "_law_spots" = true) (k14 : PySem.W.keepIn K (.ref f14) = true)
    (a15 : PySem.W.nsIn K mainGlobals "_law_right" = some (some (.ref f15))) (l15 : K.lookup f15 = some ⟨oc15, od15, .func (PySem.W.fnOf "_law_right" "_law_right" (defArgs s__law_right) (defBody s__law_right) (defScope s__law_right) .none kV15 dc15 pm15 an15 cd15 ct15), sl15⟩) (c15 : PySem.W.codeIn K cd15 "_law_right" = true) (k15 : PySem.W.keepIn K (.ref f15) = true)
    (a16 : PySem.W.nsIn K mainGlobals "law" = some (some (.ref f16))) (l16 : K.lookup f16 = some ⟨oc16, od16, .func (PySem.W.fnOf "law" "law" (defArgs s_law) (defBody s_law) (defScope s_law) .none kV16 dc16 pm16 an16 cd16 ct16), sl16⟩) (c16 : PySem.W.codeIn K cd16 "law" = true) (k16 : PySem.W.keepIn K (.ref f16) = true)
    (z1 : PySem.W.nsIn K mainGlobals "len" = some none) (z2 : PySem.W.nsIn K mainGlobals "range" = some none) (z3 : PySem.W.nsIn K mainGlobals "enumerate" = some none) (z4 : PySem.W.nsIn K mainGlobals "sorted" = some none) (z5 : PySem.W.nsIn K mainGlobals "sum" = some none) (z6 : PySem.W.nsIn K mainGlobals "min" = some none) (z7 : PySem.W.nsIn K mainGlobals "max" = some none) (z8 : PySem.W.nsIn K mainGlobals "isinstance" = some none) (z9 : PySem.W.nsIn K mainGlobals "zip" = some none) (z10 : PySem.W.nsIn K mainGlobals "list" = some none) (z11 : PySem.W.nsIn K mainGlobals "tuple" = some none) (z12 : PySem.W.nsIn K mainGlobals "int" = some none) (z13 : PySem.W.nsIn K mainGlobals "bool" = some none) (z14 : PySem.W.nsIn K mainGlobals "str" = some none) (z15 : PySem.W.nsIn K mainGlobals "abs" = some none) (z16 : PySem.W.nsIn K mainGlobals "repr" = some none) (z17 : PySem.W.nsIn K mainGlobals "dict" = some none) (z18 : PySem.W.nsIn K mainGlobals "any" = some none) (z19 : PySem.W.nsIn K mainGlobals "all" = some none) (z20 : PySem.W.nsIn K mainGlobals "set" = some none) (z21 : PySem.W.nsIn K mainGlobals "reversed" = some none) (z22 : PySem.W.nsIn K mainGlobals "ValueError" = some none) (z23 : PySem.W.nsIn K mainGlobals "divmod" = some none) :
    ∃ fd : FuncData, (∀ (s : Shared) (v : Value), BindsTo s fd ⟨[v], []⟩ [("script", v)]) ∧ ∀ base : Heap, K.In base → base.Ns mainGlobals mg → FnOk l.prog w K mg base CX0 6 fa fd ["script"] (sp_law K) := by
  obtain rfl : f16 = fa := by
    have e := (PySem.W.mg_of X G a16).symm.trans hfa
    injection e with e
    injection e
  have B : Bi mg := ⟨PySem.W.mg_none_of X G z1, PySem.W.mg_none_of X G z2, PySem.W.mg_none_of X G z3, PySem.W.mg_none_of X G z4, PySem.W.mg_none_of X G z5, PySem.W.mg_none_of X G z6, PySem.W.mg_none_of X G z7, PySem.W.mg_none_of X G z8, PySem.W.mg_none_of X G z9, PySem.W.mg_none_of X G z10, PySem.W.mg_none_of X G z11, PySem.W.mg_none_of X G z12, PySem.W.mg_none_of X G z13, PySem.W.mg_none_of X G z14, PySem.W.mg_none_of X G z15, PySem.W.mg_none_of X G z16, PySem.W.mg_none_of X G z17, PySem.W.mg_none_of X G z18, PySem.W.mg_none_of X G z19, PySem.W.mg_none_of X G z20, PySem.W.mg_none_of X G z21, PySem.W.mg_none_of X G z22, PySem.W.mg_none_of X G z23⟩
  have A1 : At K mg "is_crowd" P_is_crowd s_is_crowd := .mk' X G a1 l1 c1 k1 fun _ _ _ _ _ _ us hl => match us, hl with | [_, _], _ => rfl
  have A2 : At K mg "check_crowds" P_check_crowds s_check_crowds := .mk' X G a2 l2 c2 k2 fun _ _ _ _ _ _ us hl => match us, hl with | [_], _ => rfl
  have A3 : At K mg "places" P_places s_places := .mk' X G a3 l3 c3 k3 fun _ _ _ _ _ _ us hl => match us, hl with | [_, _], _ => rfl
  have A4 : At K mg "grown_rooms" P_grown_rooms s_grown_rooms := .mk' X G a4 l4 c4 k4 fun _ _ _ _ _ _ us hl => match us, hl with | [_, _, _, _], _ => rfl
  have A5 : At K mg "after_crowd" P_after_crowd s_after_crowd := .mk' X G a5 l5 c5 k5 fun _ _ _ _ _ _ us hl => match us, hl with | [_, _, _], _ => rfl
  have A6 : At K mg "room_of_nth" P_room_of_nth s_room_of_nth := .mk' X G a6 l6 c6 k6 fun _ _ _ _ _ _ us hl => match us, hl with | [_, _, _], _ => rfl
  have A7 : At K mg "room_of" P_room_of s_room_of := .mk' X G a7 l7 c7 k7 fun _ _ _ _ _ _ us hl => match us, hl with | [_, _], _ => rfl
  have A8 : At K mg "_law_pot" P__law_pot s__law_pot := .mk' X G a8 l8 c8 k8 fun _ _ _ _ _ _ us hl => match us, hl with | [_, _], _ => rfl
  have A9 : At K mg "_law_draw" P__law_draw s__law_draw := .mk' X G a9 l9 c9 k9 fun _ _ _ _ _ _ us hl => match us, hl with | [_, _], _ => rfl
  have A10 : At K mg "_law_one_crowd" P__law_one_crowd s__law_one_crowd := .mk' X G a10 l10 c10 k10 fun _ _ _ _ _ _ us hl => match us, hl with | [_, _, _], _ => rfl
  have A11 : At K mg "_law_lot" P__law_lot s__law_lot := .mk' X G a11 l11 c11 k11 fun _ _ _ _ _ _ us hl => match us, hl with | [_, _, _], _ => rfl
  have A12 : At K mg "_law_alike_rooms" P__law_alike_rooms s__law_alike_rooms := .mk' X G a12 l12 c12 k12 fun _ _ _ _ _ _ us hl => match us, hl with | [_], _ => rfl
  have A13 : At K mg "_law_room" P__law_room s__law_room := .mk' X G a13 l13 c13 k13 fun _ _ _ _ _ _ us hl => match us, hl with | [_, _, _], _ => rfl
  have A14 : At K mg "_law_spots" P__law_spots s__law_spots := .mk' X G a14 l14 c14 k14 fun _ _ _ _ _ _ us hl => match us, hl with | [_, _, _, _], _ => rfl
  have A15 : At K mg "_law_right" P__law_right s__law_right := .mk' X G a15 l15 c15 k15 fun _ _ _ _ _ _ us hl => match us, hl with | [_], _ => rfl
  have A16 : At K mg "law" P_law s_law := .mk' X G a16 l16 c16 k16 fun _ _ _ _ _ _ us hl => match us, hl with | [_], _ => rfl
  refine ⟨PySem.W.fnOf "law" "law" (defArgs s_law) (defBody s_law) (defScope s_law) .none kV16 dc16 pm16 an16 cd16 ct16, fun s v => .of_eq rfl, fun base _ _ => ?_⟩
  have D_is_crowd := ok_is_crowd (P := l.prog) (w := w) (base := base) A1 
  have D_check_crowds := ok_check_crowds (P := l.prog) (w := w) (base := base) A2 B D_is_crowd
  have D_places := ok_places (P := l.prog) (w := w) (base := base) A3 B
  have D_grown_rooms := ok_grown_rooms (P := l.prog) (w := w) (base := base) A4 B D_places
  have D_after_crowd := ok_after_crowd (P := l.prog) (w := w) (base := base) A5 B D_places D_grown_rooms
  have D_room_of_nth := ok_room_of_nth (P := l.prog) (w := w) (base := base) A6 B D_places
  have D_room_of := ok_room_of (P := l.prog) (w := w) (base := base) A7 B D_check_crowds D_after_crowd D_room_of_nth
  have D__law_pot := ok__law_pot (P := l.prog) (w := w) (base := base) A8 B
  have D__law_draw := ok__law_draw (P := l.prog) (w := w) (base := base) A9 B
  have D__law_one_crowd := ok__law_one_crowd (P := l.prog) (w := w) (base := base) A10 B D__law_draw
  have D__law_lot := ok__law_lot (P := l.prog) (w := w) (base := base) A11 B D__law_draw D__law_one_crowd
  have D__law_alike_rooms := ok__law_alike_rooms (P := l.prog) (w := w) (base := base) A12 B
  have D__law_room := ok__law_room (P := l.prog) (w := w) (base := base) A13 B
  have D__law_spots := ok__law_spots (P := l.prog) (w := w) (base := base) A14 B D__law_draw
  have D__law_right := ok__law_right (P := l.prog) (w := w) (base := base) A15 B D__law_draw D__law_one_crowd D__law_lot D__law_alike_rooms D__law_room D__law_spots D_room_of
  have D_law := ok_law (P := l.prog) (w := w) (base := base) A16 B D__law_pot D__law_right
  exact D_law.at hfa l16
end El
open PySem PySem.W PyProof.Rows
set_option maxRecDepth 100000 in
set_option maxHeartbeats 0 in
theorem PySem.Challenge.cw_elderinn_k21_rooms_of_great_crowds_holds : PySem.Challenge.rw_elderinn_k21_rooms_of_great_crowds.Holds := by
  w_on; o_law; k_head; (case hw => w_witness2)
  k_fill
  refine L2.walk_of (l := PySem.Challenge.rw_elderinn_k21_rooms_of_great_crowds) (n := 63) (k := 6) (x := "script") (CX := fun _ => L2.CX0) (sp := fun w => El.sp_law _) rfl (by decide) rfl ⟨rfl, by decide, by decide⟩ (fun w h Y => PySem.W.kIn_of Y) ?F (fun _ _ a ns hl _ hS => ⟨a, ns, rfl, hS, hl, fun _ => rfl⟩) (fun _ _ _ _ _ h => h)
  case F =>
    intro w mg fa h KX G hmg
    refine' El.all_mk KX G hmg ?a1 ?l1 ?c1 ?k1 ?a2 ?l2 ?c2 ?k2 ?a3 ?l3 ?c3 ?k3 ?a4 ?l4 ?c4 ?k4 ?a5 ?l5 ?c5 ?k5 ?a6 ?l6 ?c6 ?k6 ?a7 ?l7 ?c7 ?k7 ?a8 ?l8 ?c8 ?k8 ?a9 ?l9 ?c9 ?k9 ?a10 ?l10 ?c10 ?k10 ?a11 ?l11 ?c11 ?k11 ?a12 ?l12 ?c12 ?k12 ?a13 ?l13 ?c13 ?k13 ?a14 ?l14 ?c14 ?k14 ?a15 ?l15 ?c15 ?k15 ?a16 ?l16 ?c16 ?k16 ?z1 ?z2 ?z3 ?z4 ?z5 ?z6 ?z7 ?z8 ?z9 ?z10 ?z11 ?z12 ?z13 ?z14 ?z15 ?z16 ?z17 ?z18 ?z19 ?z20 ?z21 ?z22 ?z23
    (case a1 => k_is)
    (case l1 => k_is)
    (case c1 => k_is)
    (case k1 => k_is)
    (case a2 => k_is)
    (case l2 => k_is)
    (case c2 => k_is)
    (case k2 => k_is)
    (case a3 => k_is)
    (case l3 => k_is)
    (case c3 => k_is)
    (case k3 => k_is)
    (case a4 => k_is)
    (case l4 => k_is)
    (case c4 => k_is)
    (case k4 => k_is)
    (case a5 => k_is)
    (case l5 => k_is)
    (case c5 => k_is)
    (case k5 => k_is)
    (case a6 => k_is)
    (case l6 => k_is)
    (case c6 => k_is)
    (case k6 => k_is)
    (case a7 => k_is)
    (case l7 => k_is)
    (case c7 => k_is)
    (case k7 => k_is)
    (case a8 => k_is)
    (case l8 => k_is)
    (case c8 => k_is)
    (case k8 => k_is)
    (case a9 => k_is)
    (case l9 => k_is)
    (case c9 => k_is)
    (case k9 => k_is)
    (case a10 => k_is)
    (case l10 => k_is)
    (case c10 => k_is)
    (case k10 => k_is)
    (case a11 => k_is)
    (case l11 => k_is)
    (case c11 => k_is)
    (case k11 => k_is)
    (case a12 => k_is)
    (case l12 => k_is)
    (case c12 => k_is)
    (case k12 => k_is)
    (case a13 => k_is)
    (case l13 => k_is)
    (case c13 => k_is)
    (case k13 => k_is)
    (case a14 => k_is)
    (case l14 => k_is)
    (case c14 => k_is)
    (case k14 => k_is)
    (case a15 => k_is)
    (case l15 => k_is)
    (case c15 => k_is)
    (case k15 => k_is)
    (case a16 => k_is)
    (case l16 => k_is)
    (case c16 => k_is)
    (case k16 => k_is)
    (case z1 => k_is)
    (case z2 => k_is)
    (case z3 => k_is)
    (case z4 => k_is)
    (case z5 => k_is)
    (case z6 => k_is)
    (case z7 => k_is)
    (case z8 => k_is)
    (case z9 => k_is)
    (case z10 => k_is)
    (case z11 => k_is)
    (case z12 => k_is)
    (case z13 => k_is)
    (case z14 => k_is)
    (case z15 => k_is)
    (case z16 => k_is)
    (case z17 => k_is)
    (case z18 => k_is)
    (case z19 => k_is)
    (case z20 => k_is)
    (case z21 => k_is)
    (case z22 => k_is)
    (case z23 => k_is)
