import PyProof.Rows.All
import Wide.All
import OpenK.AllK
import Wide.FinOn
import HandS.ForMost
import HandS.ForExc
import HandS.Wide
import HandS.SortKw
import HandS.SortRule
import HandS.SortInts
import HandS.Style
import HandS.IsInst
import HandS.Conv
import HandS.Walk
import HandS.Flow
import HandS.More
import HandS.Defaults
import HandS.RaiseMore
import HandS.Remove
import HandS.Star
import HandS.Steps
import HandS.Strs
import HandS.ExcInit
import HandS.ExcIs
import HandS.ExcField
import HandS.FStr
import HandS.ClsMeth
import KE.KExcIs
import KE.DatumOrd
import HandS.FStrTup
import HandS.Zip
import PySem.Challenge.RW_elderinn_k32_best_refused
set_option Elab.async false
set_option linter.all false
set_option maxRecDepth 100000
set_option maxHeartbeats 8000000
namespace El
/-! ### the rule by age, in plain lists -/
def place : List (List Int) → Int → Int → List (List Int)
  | [], a, _ => [[a]]
  | r :: rs, a, p => if (r.length : Int) ≤ p then (r ++ [a]) :: rs else r :: place rs a p
def firstB : List (List Int) → Int → Nat
  | [], _ => 0
  | r :: rs, p => if (r.length : Int) ≤ p then 0 else firstB rs p + 1
theorem firstB_le : ∀ (rs : List (List Int)) (p : Int), firstB rs p ≤ rs.length
  | [], _ => Nat.le_refl _
  | r :: rs, p => by
    unfold firstB
    split
    · exact Nat.zero_le _
    · exact Nat.succ_le_succ (firstB_le rs p)
theorem firstB_out : ∀ (rs : List (List Int)) (p : Int) (i : Nat) (r : List Int), i < firstB rs p → rs[i]? = some r → p < (r.length : Int)
  | [], _, _, _, h, _ => absurd h (Nat.not_lt_zero _)
  | s :: rs, p, i, r, h, e => by
    unfold firstB at h
    split at h
    · exact absurd h (Nat.not_lt_zero _)
    · rename_i hn
      cases i with
      | zero =>
        have e' : s = r := Option.some.inj e
        subst e'
        omega
      | succ i => exact firstB_out rs p i r (Nat.lt_of_succ_lt_succ h) (by simpa using e)
theorem firstB_in : ∀ (rs : List (List Int)) (p : Int), firstB rs p < rs.length → ∃ r, rs[firstB rs p]? = some r ∧ (r.length : Int) ≤ p
  | [], _, h => absurd h (Nat.not_lt_zero _)
  | s :: rs, p, h => by
    unfold firstB at h ⊢
    split
    · rename_i hn
      exact ⟨s, rfl, hn⟩
    · rename_i hn
      rw [if_neg hn] at h
      obtain ⟨r, e, q⟩ := firstB_in rs p (Nat.lt_of_succ_lt_succ h)
      exact ⟨r, by simpa using e, q⟩
theorem firstB_is : ∀ (rs : List (List Int)) (p : Int) (i : Nat), i ≤ rs.length → (∀ j r, j < i → rs[j]? = some r → p < (r.length : Int)) → (∀ r, rs[i]? = some r → (r.length : Int) ≤ p) → firstB rs p = i
  | [], _, i, h, _, _ => by
    have : i = 0 := Nat.le_zero.mp h
    subst this
    rfl
  | s :: rs, p, 0, _, _, h2 => by
    unfold firstB
    rw [if_pos (h2 s rfl)]
  | s :: rs, p, i + 1, h, h1, h2 => by
    have h0 := h1 0 s (Nat.succ_pos _) rfl
    unfold firstB
    rw [if_neg (by omega), firstB_is rs p i (Nat.le_of_succ_le_succ h) (fun j r hj e => h1 (j + 1) r (Nat.succ_lt_succ hj) (by simpa using e)) fun r e => h2 r (by simpa using e)]
theorem place_new : ∀ (rs : List (List Int)) (a p : Int), firstB rs p = rs.length → place rs a p = rs ++ [[a]]
  | [], _, _, _ => rfl
  | r :: rs, a, p, h => by
    unfold firstB at h
    unfold place
    split at h
    · exact absurd h (by rw [List.length_cons]; omega)
    · rename_i hn
      rw [if_neg hn, place_new rs a p (by rw [List.length_cons] at h; omega)]
      rfl
theorem place_at : ∀ (rs : List (List Int)) (a p : Int) (r : List Int), rs[firstB rs p]? = some r → place rs a p = rs.set (firstB rs p) (r ++ [a])
  | [], _, _, _, h => by simp at h
  | s :: rs, a, p, r, h => by
    unfold firstB at h ⊢
    unfold place
    split
    · rename_i hn
      rw [if_pos hn] at h
      have e : s = r := Option.some.inj h
      subst e
      rfl
    · rename_i hn
      rw [if_neg hn] at h
      rw [place_at rs a p r (by simpa using h)]
      rfl
theorem place_len (rs : List (List Int)) (a p : Int) : (place rs a p).length = if firstB rs p = rs.length then rs.length + 1 else rs.length := by
  by_cases h : firstB rs p = rs.length
  · rw [if_pos h, place_new rs a p h, List.length_append]
    rfl
  · have hl := firstB_le rs p
    obtain ⟨r, e, _⟩ := firstB_in rs p (by omega)
    rw [if_neg h, place_at rs a p r e, List.length_set]
/-- all in order -/
def settleL (gs : List (Int × Int)) : List (List Int) := gs.foldl (fun rs g => place rs g.1 g.2) []
theorem settleL_snoc (gs : List (Int × Int)) (g : Int × Int) : settleL (gs ++ [g]) = place (settleL gs) g.1 g.2 := by
  unfold settleL
  rw [List.foldl_append]
  rfl
theorem settleL_take {gs : List (Int × Int)} {i : Nat} {g : Int × Int} (h : gs[i]? = some g) : settleL (gs.take (i + 1)) = place (settleL (gs.take i)) g.1 g.2 := by
  rw [List.take_add_one, h]
  exact settleL_snoc _ _
theorem place_count (rs : List (List Int)) (a p : Int) : (place rs a p).flatten.length = rs.flatten.length + 1 := by
  induction rs with
  | nil => rfl
  | cons r rs ih =>
    unfold place
    split
    · simp only [List.flatten_cons, List.length_append, List.length_cons, List.length_nil]
      omega
    · simp only [List.flatten_cons, List.length_append]
      omega
theorem settleL_count (gs : List (Int × Int)) : (settleL gs).flatten.length = gs.length := by
  suffices h : ∀ (gs : List (Int × Int)) (rs : List (List Int)), (gs.foldl (fun rs g => place rs g.1 g.2) rs).flatten.length = rs.flatten.length + gs.length by
    have q := h gs []
    rw [List.flatten_nil, List.length_nil, Nat.zero_add] at q
    exact q
  intro gs
  induction gs with
  | nil => intro rs; rfl
  | cons g gs ih =>
    intro rs
    rw [List.foldl_cons, ih, place_count, List.length_cons]
    omega
theorem place_ne (rs : List (List Int)) (a p : Int) (h : ∀ r ∈ rs, r ≠ []) : ∀ r ∈ place rs a p, r ≠ [] := by
  induction rs with
  | nil =>
    intro r hr
    rw [List.mem_singleton.mp hr]
    exact List.cons_ne_nil _ _
  | cons s rs ih =>
    unfold place
    split
    · intro r hr
      rcases List.mem_cons.mp hr with e | hr
      · rw [e]
        simp
      · exact h r (List.mem_cons_of_mem _ hr)
    · intro r hr
      rcases List.mem_cons.mp hr with e | hr
      · rw [e]
        exact h s List.mem_cons_self
      · exact ih (fun r hr => h r (List.mem_cons_of_mem _ hr)) r hr
theorem settleL_ne (gs : List (Int × Int)) : ∀ r ∈ settleL gs, r ≠ [] := by
  suffices h : ∀ (gs : List (Int × Int)) (rs : List (List Int)), (∀ r ∈ rs, r ≠ []) → ∀ r ∈ gs.foldl (fun rs g => place rs g.1 g.2) rs, r ≠ [] from h gs [] (fun r hr => absurd hr (by simp))
  intro gs
  induction gs with
  | nil => intro rs h; exact h
  | cons g gs ih =>
    intro rs h
    rw [List.foldl_cons]
    exact ih _ (place_ne rs _ _ h)
theorem len_le_flat : ∀ (rs : List (List Int)), (∀ r ∈ rs, r ≠ []) → rs.length ≤ rs.flatten.length
  | [], _ => Nat.le_refl _
  | r :: rs, h => by
    have h1 := h r List.mem_cons_self
    have h2 := len_le_flat rs fun r hr => h r (List.mem_cons_of_mem _ hr)
    have h3 : 0 < r.length := List.length_pos_iff.mpr h1
    rw [List.flatten_cons, List.length_append, List.length_cons]
    omega
theorem room_le_flat : ∀ (rs : List (List Int)) (r : List Int), r ∈ rs → r.length ≤ rs.flatten.length
  | s :: rs, r, h => by
    rw [List.flatten_cons, List.length_append]
    rcases List.mem_cons.mp h with e | h
    · rw [e]
      omega
    · have := room_le_flat rs r h
      omega
theorem settleL_len (gs : List (Int × Int)) : (settleL gs).length ≤ gs.length := by
  rw [← settleL_count gs]
  exact len_le_flat _ (settleL_ne gs)
theorem settleL_room {gs : List (Int × Int)} {r : List Int} (h : r ∈ settleL gs) : r.length ≤ gs.length := by
  rw [← settleL_count gs]
  exact room_le_flat _ _ h
/-- sizes never rise -/
def Falls (rs : List (List Int)) : Prop := rs.Pairwise fun r s => s.length ≤ r.length
theorem place_mem {rs : List (List Int)} {a p : Int} {r : List Int} (h : r ∈ place rs a p) : r ∈ rs ∨ (∃ s ∈ rs, r = s ++ [a] ∧ (s.length : Int) ≤ p) ∨ r = [a] := by
  induction rs with
  | nil => exact .inr (.inr (List.mem_singleton.mp h))
  | cons s rs ih =>
    unfold place at h
    split at h
    · rename_i hn
      rcases List.mem_cons.mp h with e | h
      · exact .inr (.inl ⟨s, List.mem_cons_self, e, hn⟩)
      · exact .inl (List.mem_cons_of_mem _ h)
    · rcases List.mem_cons.mp h with e | h
      · rw [e]
        exact .inl List.mem_cons_self
      · rcases ih h with q | ⟨t, ht, q⟩ | q
        · exact .inl (List.mem_cons_of_mem _ q)
        · exact .inr (.inl ⟨t, List.mem_cons_of_mem _ ht, q⟩)
        · exact .inr (.inr q)
theorem place_falls (rs : List (List Int)) (a p : Int) (hp : 0 ≤ p) (h : Falls rs) : Falls (place rs a p) := by
  induction rs with
  | nil => exact List.pairwise_singleton _ _
  | cons s rs ih =>
    obtain ⟨h1, h2⟩ := List.pairwise_cons.mp h
    unfold place
    split
    · refine List.pairwise_cons.mpr ⟨fun r hr => ?_, h2⟩
      have := h1 r hr
      rw [List.length_append]
      omega
    · rename_i hn
      refine List.pairwise_cons.mpr ⟨fun r hr => ?_, ih h2⟩
      rcases place_mem hr with q | ⟨t, ht, q, q2⟩ | q
      · exact h1 r q
      · rw [q, List.length_append, List.length_singleton]
        omega
      · rw [q, List.length_singleton]
        omega
theorem settleL_falls (gs : List (Int × Int)) (h : ∀ g ∈ gs, 0 ≤ g.2) : Falls (settleL gs) := by
  suffices q : ∀ (gs : List (Int × Int)) (rs : List (List Int)), (∀ g ∈ gs, 0 ≤ g.2) → Falls rs → Falls (gs.foldl (fun rs g => place rs g.1 g.2) rs) from q gs [] h List.Pairwise.nil
  intro gs
  induction gs with
  | nil => intro rs _ hr; exact hr
  | cons g gs ih =>
    intro rs hg hr
    rw [List.foldl_cons]
    exact ih _ (fun x hx => hg x (List.mem_cons_of_mem _ hx)) (place_falls rs _ _ (hg g List.mem_cons_self) hr)
/-! ### from the eldest on -/
def byAge (gs : List (Int × Int)) : List (Int × Int) := gs.mergeSort fun g h => decide (h.1 ≤ g.1)
theorem byAge_perm (gs : List (Int × Int)) : (byAge gs).Perm gs := List.mergeSort_perm _ _
theorem byAge_sorted (gs : List (Int × Int)) : (byAge gs).Pairwise fun g h => h.1 ≤ g.1 := by
  have q := List.pairwise_mergeSort (le := fun (g h : Int × Int) => decide (h.1 ≤ g.1)) (fun a b c h1 h2 => by
    have h1 := of_decide_eq_true h1
    have h2 := of_decide_eq_true h2
    exact decide_eq_true (by omega)) (fun a b => by
    by_cases h : b.1 ≤ a.1
    · simp [h]
    · have : a.1 ≤ b.1 := by omega
      simp [this]) gs
  exact q.imp fun h => of_decide_eq_true h
theorem byAge_length (gs : List (Int × Int)) : (byAge gs).length = gs.length := (byAge_perm gs).length_eq
theorem sorted_uniq {α : Type} (k : α → Int) : ∀ {l m : List α}, l.Perm m → (l.map k).Nodup → l.Pairwise (fun g h => k h ≤ k g) → m.Pairwise (fun g h => k h ≤ k g) → l = m
  | [], m, p, _, _, _ => by rw [List.nil_perm.mp p]
  | x :: l, [], p, _, _, _ => absurd p.length_eq (by simp)
  | x :: l, y :: m, p, nd, h1, h2 => by
    have nd' : (k x :: l.map k).Nodup := nd
    obtain ⟨n1, n2⟩ := List.nodup_cons.mp nd'
    obtain ⟨a1, a2⟩ := List.pairwise_cons.mp h1
    obtain ⟨b1, b2⟩ := List.pairwise_cons.mp h2
    have e : x = y := by
      rcases List.mem_cons.mp (p.mem_iff.mp List.mem_cons_self) with e | hx
      · exact e
      · have hy : y ∈ x :: l := p.mem_iff.mpr List.mem_cons_self
        rcases List.mem_cons.mp hy with e | hy
        · exact e.symm
        · have c1 := b1 x hx
          have c2 := a1 y hy
          have c3 : k x = k y := by omega
          exact absurd (List.mem_map.mpr ⟨y, hy, c3.symm⟩) n1
    subst e
    rw [sorted_uniq k (List.Perm.cons_inv p) n2 a2 b2]
def settle (gs : List (Int × Int)) : List (List Int) := settleL (byAge gs)
/-- guests that there can be -/
structure Fit (gs : List (Int × Int)) : Prop where
  nd : (gs.map (·.1)).Nodup
  pos : ∀ g ∈ gs, 0 ≤ g.2
theorem Fit.perm {gs hs : List (Int × Int)} (f : Fit gs) (p : hs.Perm gs) : Fit hs := ⟨((p.map (·.1)).nodup_iff).mpr f.nd, fun g hg => f.pos g (p.mem_iff.mp hg)⟩
theorem Fit.byAge {gs : List (Int × Int)} (f : Fit gs) : Fit (byAge gs) := f.perm (byAge_perm gs)
theorem byAge_of {gs hs : List (Int × Int)} (f : Fit gs) (p : hs.Perm gs) (h : hs.Pairwise fun g h => h.1 ≤ g.1) : hs = byAge gs :=
  sorted_uniq (·.1) (p.trans (byAge_perm gs).symm) (f.perm p).nd h (byAge_sorted gs)
theorem byAge_congr {gs hs : List (Int × Int)} (f : Fit gs) (p : hs.Perm gs) : byAge hs = byAge gs :=
  byAge_of f ((byAge_perm hs).trans p) (byAge_sorted hs)
theorem ages_of {gs : List (Int × Int)} (f : Fit gs) {ns : List Int} (p : ns.Perm (gs.map (·.1))) (h : ns.Pairwise (· ≥ ·)) : ns = (byAge gs).map (·.1) := by
  refine sorted_uniq (fun x : Int => x) (p.trans ((byAge_perm gs).map (·.1)).symm) ?_ (h.imp fun q => q) ?_
  · rw [List.map_id']
    exact (p.nodup_iff).mpr f.nd
  · rw [List.pairwise_map]
    exact byAge_sorted gs
theorem settle_congr {gs hs : List (Int × Int)} (f : Fit gs) (p : hs.Perm gs) : settle hs = settle gs := by
  unfold settle
  rw [byAge_congr f p]
end El
namespace El
/-! ### who has more elders than they bear -/
def down (ns : List Int) : List Int := ns.mergeSort fun a b => decide (b ≤ a)
theorem down_perm (ns : List Int) : (down ns).Perm ns := List.mergeSort_perm _ _
theorem down_sorted (ns : List Int) : (down ns).Pairwise (· ≥ ·) := by
  have q := List.pairwise_mergeSort (le := fun (g h : Int) => decide (h ≤ g)) (fun a b c h1 h2 => by
    have h1 := of_decide_eq_true h1
    have h2 := of_decide_eq_true h2
    exact decide_eq_true (by omega)) (fun a b => by
    by_cases h : b ≤ a
    · simp [h]
    · have : a ≤ b := by omega
      simp [this]) ns
  exact q.imp fun h => of_decide_eq_true h
theorem desc_uniq : ∀ {l m : List Int}, l.Perm m → l.Pairwise (· ≥ ·) → m.Pairwise (· ≥ ·) → l = m
  | [], m, p, _, _ => by rw [List.nil_perm.mp p]
  | x :: l, [], p, _, _ => absurd p.length_eq (by simp)
  | x :: l, y :: m, p, h1, h2 => by
    obtain ⟨a1, a2⟩ := List.pairwise_cons.mp h1
    obtain ⟨b1, b2⟩ := List.pairwise_cons.mp h2
    have e : x = y := by
      rcases List.mem_cons.mp (p.mem_iff.mp List.mem_cons_self) with e | hx
      · exact e
      · have hy : y ∈ x :: l := p.mem_iff.mpr List.mem_cons_self
        rcases List.mem_cons.mp hy with e | hy
        · exact e.symm
        · have c1 := b1 x hx
          have c2 := a1 y hy
          omega
    subst e
    rw [desc_uniq (List.Perm.cons_inv p) a2 b2]
theorem down_is {l ns : List Int} (p : l.Perm ns) (h : l.Pairwise (· ≥ ·)) : l = down ns := desc_uniq (p.trans (down_perm ns).symm) h (down_sorted ns)
def pof (gs : List (Int × Int)) (a : Int) : Int := match gs.find? fun g => decide (g.1 = a) with | some g => g.2 | none => 0
theorem pof_is : ∀ {gs : List (Int × Int)} {g : Int × Int}, (gs.map (·.1)).Nodup → g ∈ gs → pof gs g.1 = g.2
  | x :: gs, g, nd, h => by
    have nd' : (x.1 :: gs.map (·.1)).Nodup := nd
    obtain ⟨n1, n2⟩ := List.nodup_cons.mp nd'
    rcases List.mem_cons.mp h with e | h
    · subst e
      unfold pof
      rw [List.find?_cons_of_pos (by simp)]
    · have n : ¬ x.1 = g.1 := fun z => n1 (by rw [z]; exact List.mem_map.mpr ⟨g, h, rfl⟩)
      have := pof_is n2 h
      unfold pof at this ⊢
      rw [List.find?_cons_of_neg (by simpa using n)]
      exact this
def upIn (pf : Int → Int) : List Int → Nat → Option Int
  | [], _ => none
  | a :: l, i => if pf a < (i : Int) then some a else upIn pf l (i + 1)
theorem upIn_none {pf : Int → Int} : ∀ {l : List Int} {k : Nat}, (∀ (i : Nat) (a : Int), l[i]? = some a → ((i + k : Nat) : Int) ≤ pf a) → upIn pf l k = none
  | [], _, _ => rfl
  | a :: l, k, h => by
    unfold upIn
    have h0 := h 0 a rfl
    rw [if_neg (by omega)]
    exact upIn_none fun i b e => by
      have := h (i + 1) b (by simpa using e)
      omega
theorem upIn_at {pf : Int → Int} {l : List Int} {a : Int} : ∀ {i k : Nat}, l[i]? = some a → (∀ (j : Nat) (b : Int), j < i → l[j]? = some b → ((j + k : Nat) : Int) ≤ pf b) → pf a < ((i + k : Nat) : Int) → upIn pf l k = some a := by
  induction l with
  | nil => intro i k e; simp at e
  | cons x l ih =>
    intro i k e h1 h2
    unfold upIn
    cases i with
    | zero =>
      obtain rfl : x = a := Option.some.inj e
      rw [if_pos (by omega)]
    | succ i =>
      have h0 := h1 0 x (Nat.succ_pos _) rfl
      rw [if_neg (by omega)]
      exact ih (i := i) (by simpa using e) (fun j b hj e' => by
        have := h1 (j + 1) b (Nat.succ_lt_succ hj) (by simpa using e')
        omega) (by omega)
def eldUp (gs : List (Int × Int)) (ns : List Int) : Option Int := upIn (pof gs) (down ns) 0
def upsetOf (gs : List (Int × Int)) : List (List Int) → Nat → Option (Nat × Int)
  | [], _ => none
  | r :: rs, i => match eldUp gs r with | some a => some (i, a) | none => upsetOf gs rs (i + 1)
theorem upsetOf_none {gs : List (Int × Int)} : ∀ {rs : List (List Int)} {k : Nat}, (∀ r ∈ rs, eldUp gs r = none) → upsetOf gs rs k = none
  | [], _, _ => rfl
  | r :: rs, k, h => by
    unfold upsetOf
    rw [h r List.mem_cons_self]
    exact upsetOf_none fun s m => h s (List.mem_cons_of_mem _ m)
theorem upsetOf_at {gs : List (Int × Int)} {rs : List (List Int)} {r : List Int} {a : Int} : ∀ {i k : Nat}, rs[i]? = some r → (∀ (j : Nat) (s : List Int), j < i → rs[j]? = some s → eldUp gs s = none) → eldUp gs r = some a → upsetOf gs rs k = some (i + k, a) := by
  induction rs with
  | nil => intro i k e; simp at e
  | cons x rs ih =>
    intro i k e h1 h2
    unfold upsetOf
    cases i with
    | zero =>
      obtain rfl : x = r := Option.some.inj e
      rw [h2, Nat.zero_add]
    | succ i =>
      rw [h1 0 x (Nat.succ_pos _) rfl]
      have z := ih (i := i) (k := k + 1) (by simpa using e) (fun j b hj e' => h1 (j + 1) b (Nat.succ_lt_succ hj) (by simpa using e')) h2
      show upsetOf gs rs (k + 1) = _
      rw [z, show i + (k + 1) = i + 1 + k by omega]
/-! ### the rooms by age are in peace -/
def Fine (L : List (Int × Int)) (r : List Int) : Prop := r.Pairwise (· ≥ ·) ∧ ∀ (i : Nat) (a : Int), r[i]? = some a → ∃ g ∈ L, g.1 = a ∧ (i : Int) ≤ g.2
theorem Fine.mem {L : List (Int × Int)} {r : List Int} (h : Fine L r) {a : Int} (m : a ∈ r) : ∃ g ∈ L, g.1 = a := by
  obtain ⟨i, e⟩ := List.mem_iff_getElem?.mp m
  obtain ⟨g, h1, h2, _⟩ := h.2 i a e
  exact ⟨g, h1, h2⟩
theorem Fine.more {L M : List (Int × Int)} {r : List Int} (h : Fine L r) (k : ∀ g ∈ L, g ∈ M) : Fine M r := ⟨h.1, fun i a e => by
  obtain ⟨g, h1, h2⟩ := h.2 i a e
  exact ⟨g, k g h1, h2⟩⟩
theorem settleL_fine {L : List (Int × Int)} (hL : L.Pairwise fun g h => h.1 ≤ g.1) (hp : ∀ g ∈ L, 0 ≤ g.2) : ∀ i, i ≤ L.length → ∀ r ∈ settleL (L.take i), Fine (L.take i) r
  | 0, _, r, hr => by
    rw [List.take_zero] at hr
    exact absurd hr (List.not_mem_nil)
  | i + 1, hi, r, hr => by
    have ih := settleL_fine hL hp i (by omega)
    have eg : L[i]? = some L[i] := List.getElem?_eq_getElem hi
    generalize hg : L[i] = g at eg
    have hm : g ∈ L := List.mem_of_getElem? eg
    have hle : ∀ x ∈ L.take i, g.1 ≤ x.1 := by
      have e2 : L = L.take i ++ g :: L.drop (i + 1) := by
        have := List.getElem_cons_drop (as := L) (i := i) hi
        rw [hg] at this
        rw [this, List.take_append_drop]
      rw [e2] at hL
      exact fun x hx => (List.pairwise_append.mp hL).2.2 x hx g List.mem_cons_self
    have et : L.take (i + 1) = L.take i ++ [g] := by
      rw [List.take_add_one, eg]
      rfl
    rw [settleL_take eg] at hr
    rw [et]
    rcases place_mem hr with q | ⟨s, hs, e, hle2⟩ | q
    · exact (ih r q).more fun x hx => List.mem_append_left _ hx
    · have hF := ih s hs
      subst e
      refine ⟨?_, fun j a e => ?_⟩
      · rw [List.pairwise_append]
        refine ⟨hF.1, List.pairwise_singleton _ _, fun x hx y hy => ?_⟩
        rw [List.mem_singleton.mp hy]
        obtain ⟨z, hz, rfl⟩ := hF.mem hx
        exact hle z hz
      · by_cases hj : j < s.length
        · rw [List.getElem?_append_left hj] at e
          obtain ⟨z, h1, h2⟩ := hF.2 j a e
          exact ⟨z, List.mem_append_left _ h1, h2⟩
        · rw [List.getElem?_append_right (by omega)] at e
          have hj0 : j - s.length = 0 := by
            have := (List.getElem?_eq_some_iff.mp e).1
            rw [List.length_singleton] at this
            omega
          rw [hj0] at e
          obtain rfl : g.1 = a := Option.some.inj e
          exact ⟨g, List.mem_append_right _ (List.mem_singleton.mpr rfl), rfl, by omega⟩
    · subst q
      refine ⟨List.pairwise_singleton _ _, fun j a e => ?_⟩
      have hj0 : j = 0 := by
        have := (List.getElem?_eq_some_iff.mp e).1
        rw [List.length_singleton] at this
        omega
      subst hj0
      obtain rfl : g.1 = a := Option.some.inj e
      exact ⟨g, List.mem_append_right _ (List.mem_singleton.mpr rfl), rfl, hp g hm⟩
theorem settle_fine {gs : List (Int × Int)} (f : Fit gs) {r : List Int} (hr : r ∈ settle gs) : Fine gs r := by
  have h := settleL_fine (byAge_sorted gs) f.byAge.pos (byAge gs).length (Nat.le_refl _) r (by rw [List.take_length]; exact hr)
  rw [List.take_length] at h
  exact h.more fun g hg => (byAge_perm gs).mem_iff.mp hg
theorem settle_calm {gs : List (Int × Int)} (f : Fit gs) {r : List Int} (hr : r ∈ settle gs) : eldUp gs r = none := by
  obtain ⟨h1, h2⟩ := settle_fine f hr
  unfold eldUp
  rw [← down_is (List.Perm.refl r) h1]
  refine upIn_none fun i a e => ?_
  obtain ⟨g, hg, rfl, hl⟩ := h2 i a e
  rw [pof_is f.nd hg]
  exact hl
theorem place_perm : ∀ (rs : List (List Int)) (a p : Int), (place rs a p).flatten.Perm (a :: rs.flatten)
  | [], a, p => List.Perm.refl _
  | r :: rs, a, p => by
    unfold place
    split
    · rw [List.flatten_cons, List.flatten_cons, List.append_assoc]
      exact List.perm_middle
    · rw [List.flatten_cons, List.flatten_cons]
      exact ((place_perm rs a p).append_left r).trans List.perm_middle
theorem foldl_place_perm : ∀ (L : List (Int × Int)) (rs : List (List Int)), (L.foldl (fun rs g => place rs g.1 g.2) rs).flatten.Perm (L.map (·.1) ++ rs.flatten)
  | [], rs => List.Perm.refl _
  | g :: L, rs => by
    rw [List.foldl_cons]
    refine (foldl_place_perm L _).trans (((place_perm rs g.1 g.2).append_left _).trans ?_)
    rw [List.map_cons, List.cons_append]
    exact List.perm_middle
theorem settle_flat (gs : List (Int × Int)) : (settle gs).flatten.Perm (gs.map (·.1)) := by
  have h := foldl_place_perm (byAge gs) []
  rw [List.flatten_nil, List.append_nil] at h
  exact h.trans ((byAge_perm gs).map _)
/-! ### those behind the first j rooms -/
theorem take_place_lt : ∀ (rs : List (List Int)) (a p : Int) (j : Nat), firstB rs p < j → (place rs a p).take j = place (rs.take j) a p
  | _, _, _, 0, h => absurd h (Nat.not_lt_zero _)
  | [], a, p, j + 1, _ => by
    rw [List.take_nil]
    unfold place
    rw [List.take_succ_cons, List.take_nil]
  | r :: rs, a, p, j + 1, h => by
    unfold firstB at h
    rw [List.take_succ_cons]
    unfold place
    split at h
    · rename_i q
      rw [if_pos q, if_pos q, List.take_succ_cons]
    · rename_i q
      rw [if_neg q, if_neg q, List.take_succ_cons, take_place_lt rs a p j (by omega)]
theorem take_place_ge : ∀ (rs : List (List Int)) (a p : Int) (j : Nat), j ≤ firstB rs p → (place rs a p).take j = rs.take j
  | _, _, _, 0, _ => by rw [List.take_zero, List.take_zero]
  | [], a, p, j + 1, h => absurd h (Nat.not_succ_le_zero _)
  | r :: rs, a, p, j + 1, h => by
    unfold firstB at h
    unfold place
    split at h
    · exact absurd h (Nat.not_succ_le_zero _)
    · rename_i q
      rw [if_neg q, List.take_succ_cons, List.take_succ_cons, take_place_ge rs a p j (by omega)]
theorem drop_place_lt : ∀ (rs : List (List Int)) (a p : Int) (j : Nat), firstB rs p < j → (place rs a p).drop j = rs.drop j
  | _, _, _, 0, h => absurd h (Nat.not_lt_zero _)
  | [], a, p, j + 1, _ => by
    unfold place
    rw [List.drop_succ_cons, List.drop_nil, List.drop_nil]
  | r :: rs, a, p, j + 1, h => by
    unfold firstB at h
    unfold place
    split at h
    · rename_i q
      rw [if_pos q, List.drop_succ_cons, List.drop_succ_cons]
    · rename_i q
      rw [if_neg q, List.drop_succ_cons, List.drop_succ_cons, drop_place_lt rs a p j (by omega)]
theorem drop_place_ge : ∀ (rs : List (List Int)) (a p : Int) (j : Nat), j ≤ firstB rs p → (place rs a p).drop j = place (rs.drop j) a p
  | _, _, _, 0, _ => by rw [List.drop_zero, List.drop_zero]
  | [], a, p, j + 1, h => absurd h (Nat.not_succ_le_zero _)
  | r :: rs, a, p, j + 1, h => by
    unfold firstB at h
    split at h
    · exact absurd h (Nat.not_succ_le_zero _)
    · rename_i q
      rw [List.drop_succ_cons]
      show (if (r.length : Int) ≤ p then (r ++ [a]) :: rs else r :: place rs a p).drop (j + 1) = _
      rw [if_neg q, List.drop_succ_cons, drop_place_ge rs a p j (by omega)]
def kept (j : Nat) : List (List Int) → List (Int × Int) → List (Int × Int)
  | _, [] => []
  | rs, g :: L => if firstB rs g.2 < j then g :: kept j (place rs g.1 g.2) L else kept j (place rs g.1 g.2) L
def gone (j : Nat) : List (List Int) → List (Int × Int) → List (Int × Int)
  | _, [] => []
  | rs, g :: L => if firstB rs g.2 < j then gone j (place rs g.1 g.2) L else g :: gone j (place rs g.1 g.2) L
theorem gone_sub (j : Nat) : ∀ (L : List (Int × Int)) (rs : List (List Int)), ∀ g ∈ gone j rs L, g ∈ L
  | [], _, g, h => h
  | x :: L, rs, g, h => by
    unfold gone at h
    split at h
    · exact List.mem_cons_of_mem _ (gone_sub j L _ g h)
    · rcases List.mem_cons.mp h with e | h
      · rw [e]
        exact List.mem_cons_self
      · exact List.mem_cons_of_mem _ (gone_sub j L _ g h)
theorem kept_settle (j : Nat) : ∀ (L : List (Int × Int)) (rs : List (List Int)), (kept j rs L).foldl (fun rs g => place rs g.1 g.2) (rs.take j) = (L.foldl (fun rs g => place rs g.1 g.2) rs).take j
  | [], _ => rfl
  | g :: L, rs => by
    rw [List.foldl_cons]
    unfold kept
    split
    · rename_i h
      rw [List.foldl_cons, ← take_place_lt rs g.1 g.2 j h]
      exact kept_settle j L _
    · rename_i h
      rw [← take_place_ge rs g.1 g.2 j (by omega)]
      exact kept_settle j L _
theorem gone_settle (j : Nat) : ∀ (L : List (Int × Int)) (rs : List (List Int)), ((L.foldl (fun rs g => place rs g.1 g.2) rs).drop j).flatten.Perm ((gone j rs L).map (·.1) ++ (rs.drop j).flatten)
  | [], _ => List.Perm.refl _
  | g :: L, rs => by
    rw [List.foldl_cons]
    refine (gone_settle j L _).trans ?_
    show ((gone j (place rs g.1 g.2) L).map (·.1) ++ _).Perm ((if firstB rs g.2 < j then gone j (place rs g.1 g.2) L else g :: gone j (place rs g.1 g.2) L).map (·.1) ++ _)
    split
    · rename_i h
      rw [drop_place_lt rs g.1 g.2 j h]
    · rename_i h
      rw [drop_place_ge rs g.1 g.2 j (by omega), List.map_cons, List.cons_append]
      exact ((place_perm (rs.drop j) g.1 g.2).append_left _).trans List.perm_middle
theorem kept_filter (j : Nat) : ∀ (L : List (Int × Int)) (rs : List (List Int)) (S : List Int), (L.map (·.1)).Nodup → (∀ g ∈ L, g.1 ∈ S ↔ g.1 ∈ (gone j rs L).map (·.1)) → L.filter (fun g => !decide (g.1 ∈ S)) = kept j rs L
  | [], _, _, _, _ => rfl
  | g :: L, rs, S, nd, h => by
    have nd' : (g.1 :: L.map (·.1)).Nodup := nd
    obtain ⟨n1, n2⟩ := List.nodup_cons.mp nd'
    have h0 := h g List.mem_cons_self
    unfold kept
    by_cases q : firstB rs g.2 < j
    · have eg : gone j rs (g :: L) = gone j (place rs g.1 g.2) L := by
        show (if _ then _ else _) = _
        rw [if_pos q]
      rw [eg] at h h0
      have ng : ¬ g.1 ∈ S := fun z => by
        obtain ⟨x, hx, e⟩ := List.mem_map.mp (h0.mp z)
        exact n1 (List.mem_map.mpr ⟨x, gone_sub j L _ x hx, e⟩)
      rw [if_pos q, List.filter_cons_of_pos (by simpa using ng), kept_filter j L _ S n2 fun x hx => h x (List.mem_cons_of_mem _ hx)]
    · have eg : gone j rs (g :: L) = g :: gone j (place rs g.1 g.2) L := by
        show (if _ then _ else _) = _
        rw [if_neg q]
      rw [eg] at h h0
      have ng : g.1 ∈ S := h0.mpr List.mem_cons_self
      rw [if_neg q, List.filter_cons_of_neg (by simpa using ng)]
      refine kept_filter j L _ S n2 fun x hx => ?_
      have hx1 := h x (List.mem_cons_of_mem _ hx)
      rw [hx1, List.map_cons, List.mem_cons]
      have ne : ¬ x.1 = g.1 := fun z => n1 (by rw [← z]; exact List.mem_map.mpr ⟨x, hx, rfl⟩)
      exact ⟨fun z => z.resolve_left ne, .inr⟩
theorem Fit.filter {gs : List (Int × Int)} (f : Fit gs) (k : Int × Int → Bool) : Fit (gs.filter k) :=
  ⟨f.nd.sublist (List.filter_sublist.map _), fun g hg => f.pos g (List.mem_filter.mp hg).1⟩
theorem byAge_filter {gs : List (Int × Int)} (f : Fit gs) (k : Int × Int → Bool) : byAge (gs.filter k) = (byAge gs).filter k :=
  (byAge_of (f.filter k) ((byAge_perm gs).filter k) ((byAge_sorted gs).sublist List.filter_sublist)).symm
theorem settle_left {gs : List (Int × Int)} (f : Fit gs) {S : List Int} {j : Nat} (h : ∀ a, a ∈ S ↔ a ∈ ((settle gs).drop j).flatten) : settle (gs.filter fun g => !decide (g.1 ∈ S)) = (settle gs).take j := by
  unfold settle
  rw [byAge_filter f]
  have hg := gone_settle j (byAge gs) []
  rw [List.drop_nil, List.flatten_nil, List.append_nil] at hg
  rw [kept_filter j (byAge gs) [] S f.byAge.nd fun g _ => (h g.1).trans hg.mem_iff]
  have := kept_settle j (byAge gs) []
  rw [List.take_nil] at this
  exact this
def sentAway (gs : List (Int × Int)) (j : Nat) : List Int := down ((settle gs).drop j).flatten
theorem sentAway_mem (gs : List (Int × Int)) (j : Nat) (a : Int) : a ∈ sentAway gs j ↔ a ∈ ((settle gs).drop j).flatten := (down_perm _).mem_iff
end El
namespace El
/-! ### one guest more -/
/-- b is s with one more put in -/
def Plus (s b : List Int) : Prop := ∃ (A : List Int) (m : Int) (B : List Int), s = A ++ B ∧ b = A ++ m :: B
/-- where s has g, b has m ahead -/
def Swap (s b : List Int) : Prop := ∃ (A : List Int) (m : Int) (B : List Int) (g : Int) (C : List Int), s = A ++ B ++ g :: C ∧ b = A ++ m :: B ++ C
def Alike (s b : List Int) : Prop := s = b ∨ Swap s b
theorem Plus.len {s b : List Int} (h : Plus s b) : b.length = s.length + 1 := by
  obtain ⟨A, m, B, rfl, rfl⟩ := h
  rw [List.length_append, List.length_append, List.length_cons]
  omega
theorem Alike.len {s b : List Int} (h : Alike s b) : b.length = s.length := by
  rcases h with rfl | ⟨A, m, B, g, C, rfl, rfl⟩
  · rfl
  · simp only [List.length_append, List.length_cons]
    omega
theorem Plus.snoc {s b : List Int} (h : Plus s b) (a : Int) : Plus (s ++ [a]) (b ++ [a]) := by
  obtain ⟨A, m, B, rfl, rfl⟩ := h
  exact ⟨A, m, B ++ [a], by rw [List.append_assoc], by rw [List.append_assoc]; rfl⟩
theorem Alike.snoc {s b : List Int} (h : Alike s b) (a : Int) : Alike (s ++ [a]) (b ++ [a]) := by
  rcases h with rfl | ⟨A, m, B, g, C, rfl, rfl⟩
  · exact .inl rfl
  · exact .inr ⟨A, m, B, g, C ++ [a], by simp only [List.append_assoc, List.cons_append], by simp only [List.append_assoc, List.cons_append]⟩
inductive Near : List (List Int) → List (List Int) → Prop
  | new (m : Int) : Near [] [[m]]
  | here {s b : List Int} (h : Plus s b) (rest : List (List Int)) : Near (s :: rest) (b :: rest)
  | skip {s b : List Int} {ss bs : List (List Int)} (h : Alike s b) (r : Near ss bs) : Near (s :: ss) (b :: bs)
theorem Near.place (rs : List (List Int)) (a p : Int) : Near rs (El.place rs a p) := by
  induction rs with
  | nil => exact .new a
  | cons r rs ih =>
    unfold El.place
    split
    · exact .here ⟨r, a, [], by simp, rfl⟩ rs
    · exact .skip (.inl rfl) ih
theorem Near.step {s b : List (List Int)} (h : Near s b) (a p : Int) (hp : 0 ≤ p) : Near (El.place s a p) (El.place b a p) := by
  induction h with
  | new m =>
    unfold El.place
    split
    · exact .here (s := [a]) (b := [m] ++ [a]) ⟨[], m, [a], rfl, rfl⟩ []
    · refine .skip (.inr ⟨[], m, [], a, [], rfl, rfl⟩) ?_
      exact .new a
  | @here s b hb rest =>
    have hl := hb.len
    unfold El.place
    by_cases h1 : (s.length : Int) ≤ p
    · rw [if_pos h1]
      by_cases h2 : (b.length : Int) ≤ p
      · rw [if_pos h2]
        exact .here (hb.snoc a) rest
      · rw [if_neg h2]
        obtain ⟨A, m, B, rfl, rfl⟩ := hb
        exact .skip (.inr ⟨A, m, B, a, [], rfl, by simp⟩) (Near.place rest a p)
    · rw [if_neg h1, if_neg (by omega)]
      exact .here hb _
  | @skip s b ss bs hs r ih =>
    have hl := hs.len
    unfold El.place
    by_cases h1 : (s.length : Int) ≤ p
    · rw [if_pos h1, if_pos (by omega)]
      exact .skip (hs.snoc a) r
    · rw [if_neg h1, if_neg (by omega)]
      exact .skip hs ih
theorem Near.fold {s b : List (List Int)} (h : Near s b) : ∀ (gs : List (Int × Int)), (∀ g ∈ gs, 0 ≤ g.2) → Near (gs.foldl (fun rs g => El.place rs g.1 g.2) s) (gs.foldl (fun rs g => El.place rs g.1 g.2) b)
  | [], _ => h
  | g :: gs, hp => by
    rw [List.foldl_cons, List.foldl_cons]
    exact Near.fold (h.step g.1 g.2 (hp g List.mem_cons_self)) gs fun x hx => hp x (List.mem_cons_of_mem _ hx)
/-- the order with one more -/
theorem byAge_split {gs : List (Int × Int)} {x : Int × Int} (f : Fit (x :: gs)) : ∃ pre post, byAge (x :: gs) = pre ++ x :: post ∧ byAge gs = pre ++ post := by
  have hx : x ∈ byAge (x :: gs) := (byAge_perm _).mem_iff.mpr List.mem_cons_self
  obtain ⟨pre, post, e⟩ := List.append_of_mem hx
  refine ⟨pre, post, e, ?_⟩
  have fg : Fit gs := ⟨(List.nodup_cons.mp f.nd).2, fun g hg => f.pos g (List.mem_cons_of_mem _ hg)⟩
  refine (byAge_of fg ?_ ?_).symm
  · have p : (pre ++ x :: post).Perm (x :: gs) := e ▸ byAge_perm (x :: gs)
    exact List.Perm.cons_inv (List.perm_middle.symm.trans p)
  · have s := byAge_sorted (x :: gs)
    rw [e] at s
    rw [List.pairwise_append] at s ⊢
    obtain ⟨s1, s2, s3⟩ := s
    exact ⟨s1, (List.pairwise_cons.mp s2).2, fun a ha b hb => s3 a ha b (List.mem_cons_of_mem _ hb)⟩
theorem settle_near {gs : List (Int × Int)} {x : Int × Int} (f : Fit (x :: gs)) : Near (settle gs) (settle (x :: gs)) := by
  obtain ⟨pre, post, e1, e2⟩ := byAge_split f
  unfold settle settleL
  rw [e1, e2, List.foldl_append, List.foldl_append, List.foldl_cons]
  exact (Near.place _ x.1 x.2).fold post fun g hg => f.pos g ((byAge_perm _).mem_iff.mp (by rw [e1]; exact List.mem_append_right _ (List.mem_cons_of_mem _ hg)))
/-- sizes: one room one fuller -/
def bump (L : List Int) (d : Nat) : List Int := if d < L.length then L.set d (L.getD d 0 + 1) else L ++ [1]
theorem bump_cons (x : Int) (L : List Int) (d : Nat) : bump (x :: L) (d + 1) = x :: bump L d := by
  unfold bump
  by_cases h : d < L.length
  · rw [if_pos h, if_pos (by rw [List.length_cons]; omega)]
    rfl
  · rw [if_neg h, if_neg (by rw [List.length_cons]; omega)]
    rfl
theorem Near.sizes {s b : List (List Int)} (h : Near s b) : ∃ d, d ≤ s.length ∧ b.map (fun r => (r.length : Int)) = bump (s.map fun r => (r.length : Int)) d := by
  induction h with
  | new m => exact ⟨0, Nat.le_refl _, rfl⟩
  | @here s b hb rest =>
    refine ⟨0, Nat.zero_le _, ?_⟩
    have hl := hb.len
    show ((b.length : Int) :: rest.map fun r => (r.length : Int)) = ((s.length : Int) + 1) :: rest.map fun r => (r.length : Int)
    rw [hl]
    rfl
  | @skip s b ss bs hs r ih =>
    obtain ⟨d, hd, e⟩ := ih
    refine ⟨d + 1, by rw [List.length_cons]; omega, ?_⟩
    rw [List.map_cons, List.map_cons, bump_cons, e, hs.len]
theorem bump_length (L : List Int) {d : Nat} : (bump L d).length = if d < L.length then L.length else L.length + 1 := by
  unfold bump
  split
  · rw [List.length_set]
  · rw [List.length_append]
    rfl
theorem bump_at (L : List Int) {d k : Nat} (hd : d ≤ L.length) (hk : k < (bump L d).length) : (bump L d)[k]? = some (L.getD k 0 + if k = d then 1 else 0) := by
  rw [bump_length] at hk
  unfold bump
  by_cases h : d < L.length
  · rw [if_pos h] at hk ⊢
    by_cases e : k = d
    · subst e
      rw [List.getElem?_set_self hk, if_pos rfl]
    · rw [List.getElem?_set_ne (fun z => e z.symm), if_neg e, Int.add_zero, List.getElem?_eq_getElem hk, List.getD_eq_getElem?_getD, List.getElem?_eq_getElem hk]
      rfl
  · rw [if_neg h] at hk ⊢
    have hd' : d = L.length := by omega
    subst hd'
    by_cases e : k = L.length
    · subst e
      rw [List.getElem?_append_right (Nat.le_refl _), Nat.sub_self, if_pos rfl, List.getD_eq_getElem?_getD, List.getElem?_eq_none (Nat.le_refl _)]
      rfl
    · have hk' : k < L.length := by omega
      rw [List.getElem?_append_left hk', if_neg e, Int.add_zero, List.getElem?_eq_getElem hk', List.getD_eq_getElem?_getD, List.getElem?_eq_getElem hk']
      rfl
end El
namespace El
/-! ### in peace, by counting -/
theorem upIn_iff {pf : Int → Int} : ∀ {l : List Int} {k : Nat}, upIn pf l k = none ↔ ∀ (i : Nat) (a : Int), l[i]? = some a → ((i + k : Nat) : Int) ≤ pf a
  | [], _ => ⟨fun _ i a e => by simp at e, fun _ => rfl⟩
  | x :: l, k => by
    constructor
    · intro h
      unfold upIn at h
      by_cases q : pf x < (k : Int)
      · rw [if_pos q] at h
        cases h
      · rw [if_neg q] at h
        intro i a e
        cases i with
        | zero =>
          obtain rfl : x = a := Option.some.inj e
          omega
        | succ i =>
          have := (upIn_iff.mp h) i a (by simpa using e)
          omega
    · exact upIn_none
theorem upsetOf_iff {gs : List (Int × Int)} : ∀ {rs : List (List Int)} {k : Nat}, upsetOf gs rs k = none ↔ ∀ r ∈ rs, eldUp gs r = none
  | [], _ => ⟨fun _ r m => absurd m List.not_mem_nil, fun _ => rfl⟩
  | r :: rs, k => by
    constructor
    · intro h
      unfold upsetOf at h
      cases e : eldUp gs r with
      | some a => rw [e] at h; cases h
      | none =>
        rw [e] at h
        intro s m
        rcases List.mem_cons.mp m with rfl | m
        · exact e
        · exact (upsetOf_iff.mp h) s m
    · exact upsetOf_none
theorem above_ix : ∀ {l : List Int} {i : Nat} {a : Int}, l.Pairwise (· > ·) → l[i]? = some a → (l.filter fun b => decide (a < b)).length = i
  | [], i, a, _, e => by simp at e
  | x :: l, 0, a, h, e => by
    obtain rfl : x = a := Option.some.inj e
    obtain ⟨h1, _⟩ := List.pairwise_cons.mp h
    rw [List.filter_cons_of_neg (by simp), List.filter_eq_nil_iff.mpr fun b hb => by
      have := h1 b hb
      simp only [decide_eq_true_eq]
      omega]
    rfl
  | x :: l, i + 1, a, h, e => by
    obtain ⟨h1, h2⟩ := List.pairwise_cons.mp h
    have e' : l[i]? = some a := by simpa using e
    have := h1 a (List.mem_of_getElem? e')
    rw [List.filter_cons_of_pos (by simp only [decide_eq_true_eq]; omega), List.length_cons, above_ix h2 e']
def above (r : List Int) (a : Int) : List Int := r.filter fun b => decide (a < b)
theorem down_strict {r : List Int} (nd : r.Nodup) : (down r).Pairwise (· > ·) := by
  have h1 := down_sorted r
  have h2 : (down r).Nodup := ((down_perm r).nodup_iff).mpr nd
  have h3 := h1.and h2
  exact h3.imp fun {a b} h => by
    have := h.1
    have := h.2
    omega
theorem eldUp_iff {gs : List (Int × Int)} {r : List Int} (nd : r.Nodup) : eldUp gs r = none ↔ ∀ a ∈ r, ((above r a).length : Int) ≤ pof gs a := by
  have hl : ∀ a, (above r a).length = ((down r).filter fun b => decide (a < b)).length := fun a => (((down_perm r).filter _).length_eq).symm
  unfold eldUp
  rw [upIn_iff]
  constructor
  · intro h a m
    obtain ⟨i, e⟩ := List.mem_iff_getElem?.mp ((down_perm r).mem_iff.mpr m)
    have := h i a e
    rw [hl, above_ix (down_strict nd) e]
    omega
  · intro h i a e
    have := h a ((down_perm r).mem_iff.mp (List.mem_of_getElem? e))
    rw [hl, above_ix (down_strict nd) e] at this
    omega
theorem flat_nd {rs : List (List Int)} (nd : rs.flatten.Nodup) {r : List Int} (m : r ∈ rs) : r.Nodup := (List.pairwise_flatten.mp nd).1 r m
def full (rs : List (List Int)) : List (List Int) := rs.filter fun r => !r.isEmpty
def lensD (rs : List (List Int)) : List Int := (full rs).map fun r => (r.length : Int)
/-- in peace and as good as can be -/
def bestB (gs : List (Int × Int)) (rs : List (List Int)) : Bool := decide (upsetOf gs rs 0 = none) && decide (down (lensD rs) = (settle gs).map fun r => (r.length : Int))
end El
namespace El
open PySem PySem.Spec PyProof.Rows L2
/-! ### a def of the text as callers see it -/
structure Df (P : Program) (w : World) (K : PySem.W.Frag) (mg : Str → Option Value) (base : Heap) (k : Nat) (x : Str) (ps : List Str) (st : Stmt) (sp : Sp) : Prop where
  ex : ∃ (f : Addr) (fd : FuncData), Fun K x x st f fd ∧ mg x = some (.ref f) ∧ FnOk P w K mg base CX0 k f fd ps sp ∧ Binds K fd ps []
/-- where a def stands -/
structure At (K : PySem.W.Frag) (mg : Str → Option Value) (x : Str) (ps : List Str) (st : Stmt) : Prop where
  ex : ∃ (f : Addr) (fd : FuncData), Fun K x x st f fd ∧ mg x = some (.ref f) ∧ Binds K fd ps []
theorem At.df {P : Program} {w : World} {K : PySem.W.Frag} {mg : Str → Option Value} {base : Heap} {k : Nat} {x : Str} {ps : List Str} {st : Stmt} {sp : Sp} (A : At K mg x ps st)
    (h : ∀ f fd, Fun K x x st f fd → FnOk P w K mg base CX0 k f fd ps sp) : Df P w K mg base k x ps st sp := by
  obtain ⟨f, fd, F, m, b⟩ := A.ex
  exact ⟨f, fd, F, m, h f fd F, b⟩
section
variable {X : Cx} {k : Nat} {x : Str} {ps : List Str} {st : Stmt} {sp : Sp} {p pos : Pos} {e : Expr} {es : List Expr} {kws : List Keyword} {t tk : TA}
theorem pe_df (D : Df X.prog X.w X.K X.mg X.base k x ps st sp) (hr : Room k X.A) (hg : Gl X x) (ha : PA X (e :: es) t) (hdb : (x == ("__debug__" : Str)) = false := by decide)
    (he : starEach (e :: es) X.env = (false, eval e X.env) :: starEach es X.env := by rfl) (hpl : (backTo pos (starEach es X.env)).any (·.1) = false := by rfl) : PE X (.Call (.Name x p) (e :: es) [] pos) (tCall sp [] E0 t) := by
  obtain ⟨f, fd, F, m, G, b⟩ := D.ex
  exact pe_call G hr hg m F.kp b .nil pass0 ha hdb he hpl
theorem pe_df0 (D : Df X.prog X.w X.K X.mg X.base k x ps st sp) (hr : Room k X.A) (hg : Gl X x) (hdb : (x == ("__debug__" : Str)) = false := by decide) : PE X (.Call (.Name x p) [] [] pos) (tCall sp [] E0 tNil) := by
  obtain ⟨f, fd, F, m, G, b⟩ := D.ex
  exact pe_call0 G hr hg m F.kp b .nil pass0 hdb
def tCallW (n : Nat) (sp : Sp) (g : List V → List V) (tk : TA) : TE := fun σ H Q => tk σ H fun zs H2 => zs.length = n ∧ sp (g zs) H2 Q E0
/-- f(k = v, ..): keywords alone -/
theorem pe_dfK (D : Df X.prog X.w X.K X.mg X.base k x ps st sp) (ks : List Str) (g : {α : Type} → List α → List α) (hr : Room k X.A) (hg : Gl X x) (hkw : PK X kws tk)
    (hb : ∀ (kV doc pm : Value) (an : Option Addr) (cdv ct : Value) (ws : List Value), ws.length = ks.length → bindArgs (PySem.W.fnOf x x (defArgs st) (defBody st) (defScope st) .none kV doc pm an cdv ct) ⟨[], ks.zip ws⟩ = pure (ps.zip (g ws)))
    (hrel : ∀ {zs : List V} {ws : List Value}, Vals zs ws → Vals (g zs) (g ws))
    (hall : (backToKw pos (keywordEach kws X.env)).all (·.1.isSome) = true := by rfl) (hks : (backToKw pos (keywordEach kws X.env)).filterMap (·.1) = ks := by rfl) (hdb : (x == ("__debug__" : Str)) = false := by decide)
    (hpl : ((backTo pos (starEach [] X.env)).any (·.1) || (backToKw pos (keywordEach kws X.env)).any (·.1.isNone)) = false := by rfl) :
    PE X (.Call (.Name x p) [] kws pos) (tCallW ks.length sp (fun zs => g zs) tk) := by
  obtain ⟨f, fd, F, m, G, b⟩ := D.ex
  have kp := F.kp
  have KB : KBn X.K fd ps 0 ks (fun us ws => us ++ g ws) (fun vs zs => vs ++ g zs) := by
    obtain ⟨oc, od, kV, doc, pm, an, cdv, ct, osl, rfl, lk, hcd⟩ := F.ex
    refine ⟨fun s us ws hK l1 l2 => ?_, fun {vs us zs ws} r rz => Vals.append r (hrel rz)⟩
    obtain rfl := List.eq_nil_of_length_eq_zero l1
    exact .of_eq (hb kV doc pm an cdv ct ws l2)
  refine ⟨fun pins s σ H Q I h => ?_⟩
  refine wpAny_Call_Name_kw (ld_glob I hg m ?_ hdb)
  refine PySem.W.callWith_KW0 (h₀ := X.base) I.ok.mod.kin kp hall ?_ hpl
  refine thn (hkw.run pos pins s σ H _ I h) fun ws s2 ⟨zs, H2, I2, rz, l2, q2⟩ => ⟨I2.kIn, ?_⟩
  rw [hks]
  exact run_fnN (us := []) (vs := []) G hr KB pass0 I2 .nil rz rfl l2 q2
end
theorem Df.at {P : Program} {w : World} {K : PySem.W.Frag} {mg : Str → Option Value} {base : Heap} {k : Nat} {x : Str} {ps : List Str} {st : Stmt} {sp : Sp} {fa : Addr} {fd : FuncData} {oc : Value} {od : Option Addr} {sl : Array (Option Value)}
    (D : Df P w K mg base k x ps st sp) (hf : mg x = some (.ref fa)) (l : K.lookup fa = some ⟨oc, od, .func fd, sl⟩) : FnOk P w K mg base CX0 k fa fd ps sp := by
  obtain ⟨f, fd', F, m, G, b⟩ := D.ex
  obtain rfl : fa = f := by
    have e := hf.symm.trans m
    injection e with e
    injection e
  obtain ⟨oc', od', kV, doc, pm, an, cdv, ct, osl, e1, lk, hcd⟩ := F.ex
  have e := l.symm.trans lk
  injection e with e
  injection e with _ _ e _
  injection e with e
  rw [e]
  exact G
theorem At.mk' {K : PySem.W.Frag} {mg : Str → Option Value} {h : Heap} {x : Str} {ps : List Str} {st : Stmt} {f : Addr} {oc : Value} {od an : Option Addr} {osl : Array (Option Value)} {kV doc pm cdv ct : Value} (X : K.In h) (G : h.Ns mainGlobals mg)
    (a : PySem.W.nsIn K mainGlobals x = some (some (.ref f))) (l : K.lookup f = some ⟨oc, od, .func (PySem.W.fnOf x x (defArgs st) (defBody st) (defScope st) .none kV doc pm an cdv ct), osl⟩)
    (c : PySem.W.codeIn K cdv x = true) (k : PySem.W.keepIn K (.ref f) = true)
    (b : ∀ (kV doc pm : Value) (an : Option Addr) (cdv ct : Value) (us : List Value), us.length = ps.length → bindArgs (PySem.W.fnOf x x (defArgs st) (defBody st) (defScope st) .none kV doc pm an cdv ct) ⟨us, []⟩ = pure (ps.zip us)) : At K mg x ps st :=
  have F := fun_mk (st := st) l c k
  ⟨f, _, F, PySem.W.mg_of X G a, F.binds b⟩
end El
namespace El
open PySem PySem.Spec PyProof.Rows L2
section
variable {X : Cx}
/-! sorted(..., reverse=b) of anything whose walk is known -/
/-- partners: each pair is something of ours and the value that stands for it -/
abbrev Partners (P : List (V × Value)) : Prop := ∀ p ∈ P, RelV p.1 p.2
theorem partners_of : ∀ {xs : List V} {us : List Value}, Vals xs us → ∃ P, Partners P ∧ P.map Prod.fst = xs ∧ P.map Prod.snd = us
  | _, _, .nil => ⟨[], fun _ m => (List.not_mem_nil m).elim, rfl, rfl⟩
  | _, _, .cons h t =>
    let ⟨P, hP, e1, e2⟩ := partners_of t
    ⟨(_, _) :: P, fun p m => (List.mem_cons.mp m).elim (fun e => e ▸ h) (hP p), congrArg _ e1, congrArg _ e2⟩
theorem Partners.vals : ∀ {P : List (V × Value)}, Partners P → Vals (P.map Prod.fst) (P.map Prod.snd)
  | [], _ => .nil
  | _ :: _, h => .cons (h _ (.head _)) (Partners.vals fun p m => h p (.tail _ m))
/-- the values in another order: the partners go along -/
theorem go_along {α β : Type} {f : α → β} {ys : List β} : ∀ {P : List α}, ys.Perm (P.map f) → ∃ P' : List α, P'.Perm P ∧ P'.map f = ys := by
  suffices key : ∀ {as bs : List β}, as.Perm bs → ∀ P : List α, P.map f = as → ∃ P' : List α, P'.Perm P ∧ P'.map f = bs from
    fun {P} h => key h.symm P rfl
  intro as bs h
  induction h with
  | nil => exact fun P e => ⟨P, .refl _, e⟩
  | cons x _ ih =>
    intro P e
    match P, e with
    | q :: P, e =>
      obtain ⟨P', hp, e'⟩ := ih P (List.cons.inj e).2
      exact ⟨q :: P', hp.cons q, by rw [List.map_cons, e', (List.cons.inj e).1]⟩
  | swap x y l =>
    intro P e
    match P, e with
    | q :: r :: P, e => exact ⟨r :: q :: P, .swap .., by
        have e1 := List.cons.inj e
        have e2 := List.cons.inj e1.2
        rw [List.map_cons, List.map_cons, e1.1, e2.1, e2.2]⟩
  | trans _ _ ih1 ih2 =>
    intro P e
    obtain ⟨P1, h1, e1⟩ := ih1 P e
    obtain ⟨P2, h2, e2⟩ := ih2 P1 e1
    exact ⟨P2, h2.trans h1, e2⟩
/-- forwards or backwards -/
abbrev turn {α : Type} (b : Bool) (l : List α) : List α := if b = true then l.reverse else l
theorem turn_map {α β : Type} (f : α → β) (l : List α) : ∀ b, (turn b l).map f = turn b (l.map f)
  | true => List.map_reverse ..
  | false => rfl
theorem turn_perm {α : Type} (l : List α) : ∀ b, (turn b l).Perm l
  | true => l.reverse_perm
  | false => .refl _
theorem turn_arr {α : Type} (l : List α) : ∀ b : Bool, (if b = true then l.toArray.reverse else l.toArray) = (turn b l).toArray
  | true => List.reverse_toArray ..
  | false => rfl
/-- the walk over v gathers what stands for xs, and nothing that lay there is touched -/
def Gathers (X : Cx) (s : Shared) (v : Value) (xs : List V) : Prop :=
  ∀ R : List Value → Shared → Prop, (∀ us h t, Vals xs us → (∀ b o, s.heap.get? b = some o → h.get? b = some o) → R us { s with heap := h, toks := t }) → wpAny (model X.prog X.w) X.A.in1 (collect v) R X.xe s
theorem sorted_gathered {pins : List (Addr × Obj)} {σ : L2.St} {H : Hp} {s : Shared} {Q : VK} {b : Bool} {v : Value} {xs : List V} {less : Value → Value → Bool}
    (I : Inv X pins σ H s) (few : xs.length ≤ sizeLine) (walk : Gathers X s v xs) (O : SrtO.Swo less)
    (able : ∀ (us : List Value) (s' : Shared) (l : Addr), 2 ≤ us.length → Vals xs us → Inv X pins σ (upd H l (.lst xs)) s' → H l = none → SrtO.SortableO X.prog X.w X.A.in1.in1 s' l us less)
    (q : ∀ (P : List (V × Value)) (l : Addr), Partners P → (P.map Prod.fst).Perm xs → SrtO.Srtd less (P.map Prod.snd) → H l = none → Q (.ref l) (upd H l (.lst (turn b (P.map Prod.fst))))) :
    wpAny (model X.prog X.w) X.A (call (.builtin "sorted") [v] [(Str.ofString "reverse", .bool b)]) (EP X pins σ Q) X.xe s := by
  refine call_function_entry_kw kind_sorted plain_sorted entry_sorted (args_sorted_rev v (.bool b)) ?_
  refine wpAny_bind (m := checkCount "sorted" 1 1 _) (wpAny_pure ?_)
  refine wpAny_bind (walk _ fun us h t for_xs grown => ?_)
  have n2 : us.length ≤ sizeLine := for_xs.length ▸ few
  refine wpAny_bind (wpAny_newList (wpAny_bind (wpAny_holding ?_)) n2)
  -- the new list lies there, and is ours
  generalize hl : ({ s with heap := h, toks := t } : Shared).heap.objs.size = l
  have hl' : h.objs.size = l := hl
  have at_l : (h.push (seqObj "list" us.toArray 0)).get? l = some (seqObj "list" us.toArray 0) := hl' ▸ Heap.get?_push_size _ rfl
  have free : H l = none := hl' ▸ (I.kept (t' := t) grown).hok.fresh (Nat.le_refl _)
  have J : Inv X pins σ (upd H l (.lst xs)) { s with heap := h.push (seqObj "list" us.toArray 0), toks := t } :=
    (I.kept (t' := t) grown).laid (t' := t) (fun _ _ => Heap.get?_push_of_some _) (Nat.le_of_eq hl) ⟨few, _, 0, for_xs, at_l⟩
  -- it is sorted where it lies
  refine PyProof.Rows.wpAny_call_entry_kw slot_list_sort ⟨_, at_l, rfl⟩ entry_list_sort ?_ (args_list_sort_rev _ (.bool b))
  refine SrtR.list_sort_ordR O at_l n2 (fun two => able us _ l two for_xs J free) fun out up same => ⟨_, rfl, wpAny_pure ⟨_, rfl, ?_⟩⟩
  obtain ⟨P0, hP0, rfl, rfl⟩ := partners_of for_xs
  obtain ⟨P, p1, rfl⟩ := go_along (same.perm.trans (turn_perm (P0.map Prod.snd) b))
  rw [turn_arr]
  obtain ⟨e, he⟩ := sortedHeap_at (out := (turn b (P.map Prod.snd)).toArray) at_l
  have hP : Partners P := fun p m => hP0 p (p1.mem_iff.mp m)
  have ends : Partners (turn b P) := fun p m => hP p ((turn_perm P b).mem_iff.mp m)
  have done := J.write (o := .lst (turn b (P.map Prod.fst))) (t' := t) (h' := sortedHeap (h.push (seqObj "list" (P0.map Prod.snd).toArray 0)) l (P0.map Prod.snd) (turn b (P.map Prod.snd)).toArray)
    (by rw [upd_same]; trivial) (.inl rfl) (fun c u away there => (sortedHeap_old away (Heap.lt_size there)).trans there) ⟨_, he⟩
    ⟨by rw [((turn_perm _ b).trans (p1.map _)).length_eq]; exact few, _, e, by rw [← turn_map, ← turn_map]; exact ends.vals, he⟩
  rw [upd_upd] at done
  exact ⟨.ref l, _, done, rfl, q P l hP (p1.map _) up free⟩
/-- the walk over a dict: its keys -/
theorem gathers_dict {pins : List (Addr × Obj)} {σ : L2.St} {H : Hp} {s : Shared} {a : Addr} {kvs : List (L2.Key × V)} (calm : X.calm = true) (I : Inv X pins σ H s) (d : Rd H a (.dK kvs)) :
    kvs.length ≤ sizeLine ∧ Gathers X s (.ref a) (kvs.map fun e => kV e.1) := by
  have ⟨few, own, es, same, lies⟩ := dk_rd I.hok d
  have ⟨ep, lies⟩ := lies.dictAt
  have keys : (kvs.map fun e => kV e.1) = es.map fun e => kV e.1 := by
    have h := congrArg (List.map kV) same.keys
    rw [List.map_map, List.map_map] at h
    exact h
  refine ⟨few, fun R go => ?_⟩
  rw [keys] at go
  exact PySem.W.kdu_collect (PySem.W.kdl_dict (knd := mixKind X.prog X.w) own) (I.ok.hd calm) lies (same.length ▸ few)
    fun h t got grown is => go _ h t (keys_at (by simpa using is.1) fun j v at_j => is.2 j v (by simpa using at_j)) grown
theorem ints_back {us : List Value} {ns : List Int} (h : IntsAre us ns) : us.map SrtO.iv = ns := by
  induction h with
  | nil => rfl
  | cons n t _ ih => exact congrArg (n :: ·) ih
/-- sorted(d, reverse=b) of a dict whose keys are ints -/
def rSortedRevD (b : Bool) : List V → List V → Hp → VK → Prop := fun vs zs H Q => ∃ (a : Addr) (kvs : List (L2.Key × V)) (ks : List Int), vs = [V.ref a] ∧ zs = [.bl b] ∧ Rd H a (.dK kvs) ∧ kvs.map (·.1) = ks.map Sum.inl ∧
  ∀ (ns' : List Int) (p : Addr), ns'.Perm ks → OrdB b ns' → H p = none → Q (.ref p) (upd H p (.lst (ns'.map V.int)))
theorem cr_sortedRevD {b : Bool} (calm : X.calm = true) : CallRK X (.builtin "sorted") [Str.ofString "reverse"] (rSortedRevD b) := by
  rintro pins s σ H _ _ us ws Q I one by_kw ⟨a, kvs, ks, rfl, rfl, d, hks, q⟩
  obtain ⟨v, w, rfl, rfl, rfl, rfl⟩ : ∃ v w, us = [v] ∧ ws = [w] ∧ v = .ref a ∧ w = .bool b := by
    cases one with | cons e1 t1 => cases t1; cases by_kw with | cons e2 t2 => cases t2; exact ⟨_, _, rfl, rfl, e1, e2⟩
  have keys : (kvs.map fun e => kV e.1) = ks.map V.int := by
    have h := congrArg (List.map kV) hks
    rw [List.map_map, List.map_map] at h
    exact h
  have ⟨few, walk⟩ := gathers_dict calm I d
  rw [keys] at walk
  refine sorted_gathered I (by rw [← keys, List.length_map]; exact few) walk SrtO.swo_int (fun us _ _ two r _ _ => SrtO.ints_sortable r.ints two) fun P l hP perm up free => ?_
  obtain ⟨ns, np, en⟩ := go_along perm
  have back := ints_back (Vals.ints (en ▸ hP.vals))
  rw [← en, ← turn_map]
  refine q _ l ((turn_perm ns b).trans np) ?_ free
  have rise : ns.Pairwise (· ≤ ·) := by
    rw [← back, List.pairwise_map]
    exact up.imp fun h => Int.not_lt.mp (of_decide_eq_false h)
  cases b with
  | false => exact rise
  | true => exact List.pairwise_reverse.mpr rise
end
end El
namespace El
open PySem PySem.Spec PyProof.Rows L2
/-! ### heaps -/
/-- what B names stays as it was -/
def Kp (B : Addr → Prop) (H H' : Hp) : Prop := ∀ b o, B b → H b = some o → H' b = some o
theorem Kp.refl {B : Addr → Prop} {H : Hp} : Kp B H H := fun _ _ _ e => e
theorem Kp.trans {B : Addr → Prop} {H H1 H2 : Hp} (h : Kp B H H1) (k : Kp B H1 H2) : Kp B H H2 := fun b o hb e => k b o hb (h b o hb e)
theorem Kp.of {B : Addr → Prop} {H H' : Hp} (h : Same H H') : Kp B H H' := fun b o _ e => h b o e
theorem Kp.same {H H' : Hp} (h : Kp (fun _ => True) H H') : Same H H' := fun b o e => h b o trivial e
theorem same_new {H : Hp} {p : Addr} {o : HO} (h : H p = none) : Same H (upd H p o) := fun b u e => by
  rw [upd_ne (ne_of_none e h)]
  exact e
theorem Same.mut {H H' : Hp} {p : Addr} {o : HO} (e : Same H H') (h : H p = none) : Same H (upd H' p o) := fun b u q => by
  rw [upd_ne (ne_of_none q h)]
  exact e b u q
theorem Kp.mut {B : Addr → Prop} {H H' : Hp} {p : Addr} {o : HO} (e : Kp B H H') (h : ¬ B p) : Kp B H (upd H' p o) := fun b u hb q => by
  have n : b ≠ p := fun z => h (z ▸ hb)
  rw [upd_ne n]
  exact e b u hb q
theorem Kp.new {B : Addr → Prop} {H H' : Hp} {p : Addr} {o : HO} (e : Kp B H H') (h : H' p = none) : Kp B H (upd H' p o) := e.trans (Kp.of (same_new h))
theorem Kp.mutF {B : Addr → Prop} {H H' : Hp} {p : Addr} {o : HO} (e : Kp B H H') (h : H p = none) : Kp B H (upd H' p o) := fun b u hb q => by
  rw [upd_ne (ne_of_none q h)]
  exact e b u hb q
theorem Kp.none {B : Addr → Prop} {H H' : Hp} (e : Kp B H H') {p : Addr} (hb : B p) (h : H' p = none) : H p = none := by
  cases z : H p with
  | none => rfl
  | some x =>
    have := e _ _ hb z
    rw [h] at this
    cases this
theorem no_of {H : Hp} {a p : Addr} {o : HO} (h : H a = some o) (hp : H p = none) : p ≠ a := fun z => by
  rw [z, h] at hp
  cases hp
theorem same_none {H H' : Hp} (e : Same H H') {p : Addr} (h : H' p = none) : H p = none := e.free h
theorem ils {n : Nat} (h : n ≤ 100000) : n < sizeLine := Nat.lt_of_le_of_lt h (by decide)
theorem ile {n : Nat} (h : n ≤ 100000) : n ≤ sizeLine := Nat.le_of_lt (ils h)
theorem ints_at {ns : List Int} {i : Nat} {x : V} (h : (ns.map V.int)[i]? = some x) : ∃ n, ns[i]? = some n ∧ x = .int n := by
  rw [List.getElem?_map] at h
  cases e : ns[i]? with
  | none => rw [e] at h; cases h
  | some n => rw [e] at h; exact ⟨n, rfl, (Option.some.inj h).symm⟩
theorem refs_at {ts : List Addr} {i : Nat} {x : V} (h : (ts.map V.ref)[i]? = some x) : ∃ t, ts[i]? = some t ∧ x = .ref t := by
  rw [List.getElem?_map] at h
  cases e : ts[i]? with
  | none => rw [e] at h; cases h
  | some t => rw [e] at h; exact ⟨t, rfl, (Option.some.inj h).symm⟩
theorem at_lt {α : Type} {l : List α} {i : Nat} {x : α} (h : l[i]? = some x) : i < l.length := (List.getElem?_eq_some_iff.mp h).1
theorem at_some {α : Type} {l : List α} {i : Nat} (h : i < l.length) : ∃ x, l[i]? = some x := ⟨l[i], List.getElem?_eq_getElem h⟩
theorem take_snoc {α : Type} {l : List α} {i : Nat} {x : α} (h : l[i]? = some x) : l.take (i + 1) = l.take i ++ [x] := by
  rw [List.take_add_one, h]
  rfl
theorem take_full {α : Type} (l : List α) : l.take l.length = l := List.take_length
/-! ### a list of pairs of ints -/
structure GsAt (H : Hp) (B : Addr → Prop) (a : Addr) (ts : List Addr) (gs : List (Int × Int)) : Prop where
  top : H a = some (.lst (ts.map V.ref))
  ba : B a
  len : ts.length = gs.length
  at' : ∀ (i : Nat) (t : Addr) (g : Int × Int), ts[i]? = some t → gs[i]? = some g → H t = some (.tup [.int g.1, .int g.2])
  b : ∀ t ∈ ts, B t
theorem GsAt.keep {H H' : Hp} {B : Addr → Prop} {a : Addr} {ts : List Addr} {gs : List (Int × Int)} (h : GsAt H B a ts gs) (k : Kp B H H') : GsAt H' B a ts gs :=
  ⟨k _ _ h.ba h.top, h.ba, h.len, fun i t g e f => k _ _ (h.b t (List.mem_of_getElem? e)) (h.at' i t g e f), h.b⟩
theorem GsAt.same {H H' : Hp} {B : Addr → Prop} {a : Addr} {ts : List Addr} {gs : List (Int × Int)} (h : GsAt H B a ts gs) (k : Same H H') : GsAt H' B a ts gs := h.keep (.of k)
theorem GsAt.weaken {H : Hp} {B B' : Addr → Prop} {a : Addr} {ts : List Addr} {gs : List (Int × Int)} (h : GsAt H B a ts gs) (k : ∀ b, B b → B' b) : GsAt H B' a ts gs :=
  ⟨h.top, k _ h.ba, h.len, h.at', fun t m => k _ (h.b t m)⟩
theorem GsAt.seq {K : PySem.W.Frag} {H : Hp} {B : Addr → Prop} {a : Addr} {ts : List Addr} {gs : List (Int × Int)} (h : GsAt H B a ts gs) : SqL K H a (ts.map V.ref) := SqL.of h.top
theorem GsAt.get {H : Hp} {B : Addr → Prop} {a : Addr} {ts : List Addr} {gs : List (Int × Int)} (h : GsAt H B a ts gs) {i : Nat} {x : V} (e : (ts.map V.ref)[i]? = some x) : ∃ t g, x = .ref t ∧ gs[i]? = some g ∧ H t = some (.tup [.int g.1, .int g.2]) := by
  obtain ⟨t, e1, rfl⟩ := refs_at e
  have hi := at_lt e1
  rw [h.len] at hi
  obtain ⟨g, e2⟩ := at_some hi
  exact ⟨t, g, rfl, e2, h.at' i t g e1 e2⟩
/-- pushed -/
theorem GsAt.push {H : Hp} {B : Addr → Prop} {a : Addr} {ts : List Addr} {gs : List (Int × Int)} (h : GsAt H B a ts gs) (hn : a ∉ ts) {q : Addr} {g : Int × Int} (e : H q = some (.tup [.int g.1, .int g.2])) (bq : B q) :
    GsAt (upd H a (.lst (ts.map V.ref ++ [.ref q]))) B a (ts ++ [q]) (gs ++ [g]) := by
  refine ⟨?_, h.ba, ?_, fun i t x e1 e2 => ?_, fun t m => ?_⟩
  · rw [upd_same, List.map_append]
    rfl
  · rw [List.length_append, List.length_append, h.len]
    rfl
  · have nq : q ≠ a := fun z => by
      rw [z, h.top] at e
      cases e
    by_cases hi : i < ts.length
    · rw [List.getElem?_append_left hi] at e1
      rw [List.getElem?_append_left (by rw [← h.len]; exact hi)] at e2
      have nt : t ≠ a := fun z => hn (z ▸ List.mem_of_getElem? e1)
      rw [upd_ne nt]
      exact h.at' i t x e1 e2
    · have hi' : i = ts.length := by
        have := at_lt e1
        rw [List.length_append, List.length_singleton] at this
        omega
      subst hi'
      rw [List.getElem?_append_right (Nat.le_refl _), Nat.sub_self] at e1
      rw [h.len, List.getElem?_append_right (Nat.le_refl _), Nat.sub_self] at e2
      have e1' : q = t := Option.some.inj e1
      have e2' : g = x := Option.some.inj e2
      subst e1' e2'
      rw [upd_ne nq]
      exact e
  · rcases List.mem_append.mp m with m | m
    · exact h.b t m
    · rw [List.mem_singleton.mp m]
      exact bq
theorem GsAt.there {H : Hp} {B : Addr → Prop} {a : Addr} {ts : List Addr} {gs : List (Int × Int)} (h : GsAt H B a ts gs) : ∀ b, (b = a ∨ b ∈ ts) → ∃ x, H b = some x := fun b m => by
  rcases m with rfl | m
  · exact ⟨_, h.top⟩
  · obtain ⟨i, e⟩ := List.mem_iff_getElem?.mp m
    have hl := at_lt e
    rw [h.len] at hl
    obtain ⟨g, eg⟩ := at_some hl
    exact ⟨_, h.at' i b g e eg⟩
theorem GsAt.reB {H : Hp} {B B' : Addr → Prop} {a : Addr} {ts : List Addr} {gs : List (Int × Int)} (h : GsAt H B a ts gs) (k : ∀ b, (b = a ∨ b ∈ ts) → B b → B' b) : GsAt H B' a ts gs :=
  ⟨h.top, k _ (.inl rfl) h.ba, h.len, h.at', fun t m => k _ (.inr m) (h.b t m)⟩
/-- what stands in H and is named by B -/
def Liv (H : Hp) (B : Addr → Prop) (b : Addr) : Prop := (∃ x, H b = some x) ∧ B b
theorem GsAt.liv {H : Hp} {B : Addr → Prop} {a : Addr} {ts : List Addr} {gs : List (Int × Int)} (h : GsAt H B a ts gs) : GsAt H (Liv H B) a ts gs := h.reB fun b m hb => ⟨h.there b m, hb⟩
theorem Liv.no {H : Hp} {B : Addr → Prop} {p : Addr} (h : H p = none) : ¬ Liv H B p := fun ⟨⟨x, e⟩, _⟩ => by
  rw [h] at e
  cases e
theorem Liv.of {H : Hp} {B : Addr → Prop} {p : Addr} {o : HO} (h : H p = some o) (b : B p) : Liv H B p := ⟨⟨o, h⟩, b⟩
theorem Kp.weak {B B' : Addr → Prop} {H H' : Hp} (k : Kp B H H') (h : ∀ b, B' b → B b) : Kp B' H H' := fun b o hb e => k b o (h b hb) e
theorem Kp.liv {B : Addr → Prop} {H0 H H' : Hp} (k : Kp B H H') : Kp (Liv H0 B) H H' := k.weak fun _ h => h.2
/-! ### a list of lists of ints, each its own -/
structure RmsAt (H : Hp) (B : Addr → Prop) (o : Addr) (ts : List Addr) (rs : List (List Int)) : Prop where
  top : H o = some (.lst (ts.map V.ref))
  bo : B o
  nd : ts.Nodup
  no : o ∉ ts
  len : ts.length = rs.length
  at' : ∀ (i : Nat) (t : Addr) (r : List Int), ts[i]? = some t → rs[i]? = some r → H t = some (.lst (r.map V.int))
  b : ∀ t ∈ ts, B t
theorem RmsAt.keep {H H' : Hp} {B : Addr → Prop} {a : Addr} {ts : List Addr} {rs : List (List Int)} (h : RmsAt H B a ts rs) (k : Kp B H H') : RmsAt H' B a ts rs :=
  ⟨k _ _ h.bo h.top, h.bo, h.nd, h.no, h.len, fun i t g e f => k _ _ (h.b t (List.mem_of_getElem? e)) (h.at' i t g e f), h.b⟩
theorem RmsAt.same {H H' : Hp} {B : Addr → Prop} {a : Addr} {ts : List Addr} {rs : List (List Int)} (h : RmsAt H B a ts rs) (k : Same H H') : RmsAt H' B a ts rs := h.keep (.of k)
theorem RmsAt.weaken {H : Hp} {B B' : Addr → Prop} {a : Addr} {ts : List Addr} {rs : List (List Int)} (h : RmsAt H B a ts rs) (k : ∀ b, B b → B' b) : RmsAt H B' a ts rs :=
  ⟨h.top, k _ h.bo, h.nd, h.no, h.len, h.at', fun t m => k _ (h.b t m)⟩
theorem RmsAt.seq {K : PySem.W.Frag} {H : Hp} {B : Addr → Prop} {a : Addr} {ts : List Addr} {rs : List (List Int)} (h : RmsAt H B a ts rs) : SqL K H a (ts.map V.ref) := SqL.of h.top
theorem RmsAt.get {H : Hp} {B : Addr → Prop} {a : Addr} {ts : List Addr} {rs : List (List Int)} (h : RmsAt H B a ts rs) {i : Nat} {x : V} (e : (ts.map V.ref)[i]? = some x) : ∃ t r, x = .ref t ∧ ts[i]? = some t ∧ rs[i]? = some r ∧ H t = some (.lst (r.map V.int)) := by
  obtain ⟨t, e1, rfl⟩ := refs_at e
  have hi := at_lt e1
  rw [h.len] at hi
  obtain ⟨g, e2⟩ := at_some hi
  exact ⟨t, g, rfl, e1, e2, h.at' i t g e1 e2⟩
theorem RmsAt.of {H : Hp} {B : Addr → Prop} {a : Addr} {ts : List Addr} {rs : List (List Int)} (h : RmsAt H B a ts rs) {i : Nat} {r : List Int} (e : rs[i]? = some r) : ∃ t, ts[i]? = some t ∧ H t = some (.lst (r.map V.int)) := by
  have hi := at_lt e
  rw [← h.len] at hi
  obtain ⟨t, e2⟩ := at_some hi
  exact ⟨t, e2, h.at' i t r e2 e⟩
theorem RmsAt.nil {H : Hp} {B : Addr → Prop} {o : Addr} (h : H o = some (.lst [])) (bo : B o) : RmsAt H B o [] [] :=
  ⟨h, bo, List.nodup_nil, by simp, rfl, fun i t r e _ => by simp at e, fun t m => by simp at m⟩
/-- a new empty list behind -/
theorem RmsAt.push {H : Hp} {B : Addr → Prop} {o : Addr} {ts : List Addr} {rs : List (List Int)} (h : RmsAt H B o ts rs) {q : Addr} {r : List Int} (hq : H q = none) (bq : B q) :
    RmsAt (upd (upd H q (.lst (r.map V.int))) o (.lst (ts.map V.ref ++ [.ref q]))) B o (ts ++ [q]) (rs ++ [r]) := by
  have nq : q ≠ o := no_of h.top hq
  have nqt : ∀ t ∈ ts, q ≠ t := fun t m => by
    obtain ⟨i, hi⟩ := List.mem_iff_getElem?.mp m
    have hl := at_lt hi
    rw [h.len] at hl
    obtain ⟨r', er⟩ := at_some hl
    exact no_of (h.at' i t r' hi er) hq
  refine ⟨?_, h.bo, ?_, ?_, ?_, fun i t x e1 e2 => ?_, fun t m => ?_⟩
  · rw [upd_same, List.map_append]
    rfl
  · rw [List.nodup_append]
    exact ⟨h.nd, by simp, fun a ha b hb => by
      rw [List.mem_singleton.mp hb]
      exact (nqt a ha).symm⟩
  · intro m
    rcases List.mem_append.mp m with m | m
    · exact h.no m
    · exact nq (List.mem_singleton.mp m).symm
  · rw [List.length_append, List.length_append, h.len]
    rfl
  · by_cases hi : i < ts.length
    · rw [List.getElem?_append_left hi] at e1
      rw [List.getElem?_append_left (by rw [← h.len]; exact hi)] at e2
      have nt : t ≠ o := fun z => h.no (z ▸ List.mem_of_getElem? e1)
      rw [upd_ne nt, upd_ne (nqt t (List.mem_of_getElem? e1)).symm]
      exact h.at' i t x e1 e2
    · have hi' : i = ts.length := by
        have := at_lt e1
        rw [List.length_append, List.length_singleton] at this
        omega
      subst hi'
      rw [List.getElem?_append_right (Nat.le_refl _), Nat.sub_self] at e1
      rw [h.len, List.getElem?_append_right (Nat.le_refl _), Nat.sub_self] at e2
      have e1' : q = t := Option.some.inj e1
      have e2' : r = x := Option.some.inj e2
      subst e1' e2'
      rw [upd_ne nq, upd_same]
  · rcases List.mem_append.mp m with m | m
    · exact h.b t m
    · rw [List.mem_singleton.mp m]
      exact bq
/-- one of them changed -/
theorem RmsAt.set {H : Hp} {B : Addr → Prop} {o : Addr} {ts : List Addr} {rs : List (List Int)} (h : RmsAt H B o ts rs) {i : Nat} {t : Addr} (e : ts[i]? = some t) (r : List Int) :
    RmsAt (upd H t (.lst (r.map V.int))) B o ts (rs.set i r) := by
  have nt : t ≠ o := fun z => h.no (z ▸ List.mem_of_getElem? e)
  refine ⟨?_, h.bo, h.nd, h.no, ?_, fun j u x e1 e2 => ?_, h.b⟩
  · rw [upd_ne nt.symm]
    exact h.top
  · rw [List.length_set]
    exact h.len
  · by_cases hj : j = i
    · subst hj
      have e' : u = t := Option.some.inj (e1.symm.trans e)
      subst e'
      rw [upd_same]
      have hl := at_lt e1
      rw [h.len] at hl
      rw [List.getElem?_set_self hl] at e2
      have : r = x := Option.some.inj e2
      rw [this]
    · rw [List.getElem?_set_ne (fun z => hj z.symm)] at e2
      have hut : u ≠ t := fun z => by
        subst z
        exact hj (nd_ix h.nd e1 e)
      rw [upd_ne hut]
      exact h.at' j u x e1 e2
theorem RmsAt.newTop {H H' : Hp} {B B' : Addr → Prop} {o : Addr} {ts : List Addr} {rs : List (List Int)} (h : RmsAt H B o ts rs) (k : ∀ b u, (b = o ∨ b ∈ ts) → H b = some u → H' b = some u) (kb : ∀ b, (b = o ∨ b ∈ ts) → B' b) : RmsAt H' B' o ts rs :=
  ⟨k _ _ (.inl rfl) h.top, kb _ (.inl rfl), h.nd, h.no, h.len, fun i t r e f => k _ _ (.inr (List.mem_of_getElem? e)) (h.at' i t r e f), fun t m => kb t (.inr m)⟩
/-! ### the dict of patience -/
def pks (gs : List (Int × Int)) : List (L2.Key × V) := gs.map fun g => (Sum.inl g.1, V.int g.2)
theorem pks_len (gs : List (Int × Int)) : (pks gs).length = gs.length := List.length_map _
theorem pks_keys (gs : List (Int × Int)) : (pks gs).map (·.1) = (gs.map (·.1)).map Sum.inl := by
  unfold pks
  rw [List.map_map, List.map_map]
  rfl
theorem pks_snoc (gs : List (Int × Int)) (g : Int × Int) : pks (gs ++ [g]) = pks gs ++ [(Sum.inl g.1, V.int g.2)] := List.map_append
theorem pks_none {gs : List (Int × Int)} {a : Int} (h : a ∉ gs.map (·.1)) : valV (pks gs) (Sum.inl a) = none := by
  induction gs with
  | nil => rfl
  | cons g gs ih =>
    have h' : ¬ (a = g.1 ∨ a ∈ gs.map (·.1)) := fun z => h (by rw [List.map_cons]; exact List.mem_cons.mpr z)
    have n : ¬ (Sum.inl g.1 : L2.Key) = Sum.inl a := fun z => h' (.inl (Sum.inl.inj z).symm)
    show valV ((Sum.inl g.1, V.int g.2) :: pks gs) (Sum.inl a) = none
    rw [valV_neg n]
    exact ih fun z => h' (.inr z)
theorem pks_some : ∀ {gs : List (Int × Int)} {g : Int × Int}, (gs.map (·.1)).Nodup → g ∈ gs → valV (pks gs) (Sum.inl g.1) = some (.int g.2)
  | x :: gs, g, nd, h => by
    have nd' : (x.1 :: gs.map (·.1)).Nodup := nd
    obtain ⟨n1, n2⟩ := List.nodup_cons.mp nd'
    show valV ((Sum.inl x.1, V.int x.2) :: pks gs) (Sum.inl g.1) = some (.int g.2)
    rcases List.mem_cons.mp h with e | h
    · subst e
      rw [valV_pos rfl]
    · have n : ¬ (Sum.inl x.1 : L2.Key) = Sum.inl g.1 := fun z => n1 (by
        rw [Sum.inl.inj z]
        exact List.mem_map.mpr ⟨g, h, rfl⟩)
      rw [valV_neg n]
      exact pks_some n2 h
theorem putK_snoc {gs : List (Int × Int)} {g : Int × Int} (h : g.1 ∉ gs.map (·.1)) : putK (pks gs) (Sum.inl g.1) (V.int g.2) = pks (gs ++ [g]) := by
  rw [putK_new _ (pks_none h), pks_snoc]
theorem Fit.take_no {gs : List (Int × Int)} (f : Fit gs) {i : Nat} {g : Int × Int} (h : gs[i]? = some g) : g.1 ∉ (gs.take i).map (·.1) := by
  intro m
  have e : gs = gs.take i ++ g :: gs.drop (i + 1) := by
    have hl := at_lt h
    have e2 : gs[i] = g := by
      rw [List.getElem?_eq_getElem hl] at h
      exact Option.some.inj h
    rw [← e2, List.getElem_cons_drop, List.take_append_drop]
  have nd := f.nd
  rw [e, List.map_append, List.nodup_append] at nd
  exact nd.2.2 _ m g.1 (by rw [List.map_cons]; exact List.mem_cons_self) rfl
/-! ### rules by a written part that is named (for what stands in a comprehension) -/
section
variable {X : Cx}
theorem lenK (K : PySem.W.Frag) (e : X.K = K := by rfl) : CallR X (.builtin "len") (fun xs H Q => ∃ p ys, xs = [.ref p] ∧ (SqL K H p ys ∨ SqT K H p ys) ∧ Q (.int ys.length) H) := by
  subst e
  exact call_len_seq
theorem ixlK (K : PySem.W.Frag) (e : X.K = K := by rfl) : IxR X (rIxL K) := by
  subst e
  exact ix_list
theorem ixtK (K : PySem.W.Frag) (e : X.K = K := by rfl) : IxR X (rIxT K) := by
  subst e
  exact ix_tup
theorem sllK (K : PySem.W.Frag) (e : X.K = K := by rfl) : SlR X (rSlL K) := by
  subst e
  exact sl_list
theorem eqDK (K : PySem.W.Frag) (hu : X.A.units + 64 < cLine) (e : X.K = K := by rfl) : OpR X (compareOp .Eq) (rEqD K) := by
  subst e
  exact op_eqD hu
theorem neDK (K : PySem.W.Frag) (hu : X.A.units + 64 < cLine) (e : X.K = K := by rfl) : OpR X (compareOp .NotEq) (rNeD K) := by
  subst e
  exact op_neD hu
theorem isiK (K : PySem.W.Frag) (e : X.K = K := by rfl) : CallR X (.builtin "isinstance") (rIsi K) := by
  subst e
  exact call_isi
theorem sumK (K : PySem.W.Frag) (hc : X.calm = true) (e : X.K = K := by rfl) : CallR X (.builtin "sum") (rSum K) := by
  subst e
  exact cr_sum hc
theorem inK (K : PySem.W.Frag) (e : X.K = K := by rfl) : OpR X (compareOp .In) (rIn K false) := by
  subst e
  exact op_in_seq
theorem notInK (K : PySem.W.Frag) (e : X.K = K := by rfl) : OpR X (compareOp .NotIn) (rIn K true) := by
  subst e
  exact op_notIn_seq
theorem listOfK (K : PySem.W.Frag) (e : X.K = K := by rfl) : CallR X (.type "list") (fun xs H Q => ∃ p ys, xs = [.ref p] ∧ (SqL K H p ys ∨ SqT K H p ys) ∧ ∀ l, H l = none → Q (.ref l) (upd H l (.lst ys))) := by
  subst e
  exact call_list_of
theorem pgTupK {es : List Expr} {k : Nat} {t : TGs} {pos : Pos} (K : PySem.W.Frag) (n : Nat) (hc : X.calm = true) (h : PGs X es t)
    (hn : (assignEach es X.env).length = n := by rfl) (hst : (assignEach es X.env).findIdx? (·.1) = none := by rfl) (e : X.K = K := by rfl) : PG X (.Tuple es k pos) (gTup K n t) := by
  subst e
  exact pg_tup hc h hn hst
theorem bmK {T : String} {name : Str} {id : String} {o e : Expr} {es : List Expr} {to : TE} {t : TA} {apos cpos : Pos} {r : V → List V → Hp → VK → Prop} (K : PySem.W.Frag) (pa : PlainAttrs T) (slot : Slot T name id) (hty : typeOf (.builtin id) = pure (.type "method_descriptor")) (hm : MtR X id r) (ho : PE X o to) (ha : PA X (e :: es) t)
    (hbase : attributeBase o name X.env (eval o X.env) = eval o X.env := by rfl)
    (hfew : ((backTo cpos (starEach (e :: es) X.env)).all (fun x => !x.1) && (backToKw cpos (keywordEach [] X.env)).all (fun x => x.1.isSome)
      && decide ((e :: es).length + ([] : List Keyword).length + (if ([] : List Keyword).isEmpty then 0 else 1) < 30)) = true := by rfl)
    (hline : (apos.endLine == cpos.line) = true := by rfl) (hs : starEach (e :: es) X.env = (false, eval e X.env) :: starEach es X.env := by rfl) (hplain : (backTo cpos (starEach es X.env)).any (·.1) = false := by rfl) (eK : X.K = K := by rfl) :
    PE X (.Call (.Attribute o name apos) (e :: es) [] cpos) (tBM K T r to t) := by
  subst eK
  exact pe_bm pa slot hty hm ho ha hbase hfew hline hs hplain
end
/-! ### cuts: what holds between two parts of a body -/
section
variable {σ : L2.St} {H : Hp} {D : Ends} {c : TT} {t u tb : TS}
theorem while_to (W : Nat → L2.St → Hp → Prop) (E : L2.St → Hp → Prop) (h0 : ∃ m, W m σ H) (hd : ∀ σ H, E σ H → D.nx σ H)
    (hs : ∀ X : L2.St → Hp → Prop, (∀ σ H, E σ H → X σ H) → ∀ m σ H, W m σ H → c σ H fun b H1 => if b = true then ∃ N : L2.St → Hp → Prop, (∀ σ' H', N σ' H' → ∃ m', m' < m ∧ W m' σ' H') ∧ tb { D with nx := N, ct := N, bk := X } σ H1 else X σ H1) : tWhile c tb D σ H := ⟨W, h0, hs D.nx hd⟩
theorem seq_to (E : L2.St → Hp → Prop) (h1 : ∀ X : L2.St → Hp → Prop, (∀ σ H, E σ H → X σ H) → t { D with nx := X } σ H) (h2 : ∀ σ H, E σ H → u D σ H) : tSeq t u D σ H := h1 (u D) h2
theorem seq_set {i : Nat} {v : V} (h : u D (σ.set i (some v)) H) : tSeq (tAsg (tC v) (gName i)) u D σ H := h
theorem st_to (E : L2.St → Hp → Prop) (h1 : ∀ X : L2.St → Hp → Prop, (∀ σ H, E σ H → X σ H) → t { D with nx := X } σ H) (h2 : ∀ σ H, E σ H → D.nx σ H) : t D σ H := h1 D.nx h2
end
theorem ixN_of {n j : Nat} (hj : j < n) : ixN n (j : Int) = some j := by
  unfold ixN
  rw [if_pos (by omega), if_pos (by omega), Int.toNat_natCast]
theorem seq_ix {n j : Nat} (hj : j < n) : seqIndex? (j : Int) n = some j := (ixN_seq (ixN_of hj)).1
theorem at_pick {xs : List V} {r : Int} (h0 : 0 ≤ r) (h1 : r < xs.length) : ∃ v, atI xs r = some v ∧ v ∈ xs := by
  obtain ⟨k, rfl⟩ : ∃ k : Nat, r = k := ⟨r.toNat, by omega⟩
  obtain ⟨v, e⟩ := at_some (show k < xs.length by omega)
  exact ⟨v, atI_nat e, List.mem_of_getElem? e⟩
theorem erase_perm {α : Type} : ∀ {l : List α} {k : Nat} {x : α}, l[k]? = some x → (x :: l.eraseIdx k).Perm l
  | [], _, _, h => by simp at h
  | a :: l, 0, x, h => by
    obtain rfl : a = x := Option.some.inj h
    exact List.Perm.refl _
  | a :: l, k + 1, x, h => by
    have ih := erase_perm (l := l) (k := k) (x := x) (by simpa using h)
    exact (List.Perm.swap a x (l.eraseIdx k)).trans (ih.cons a)
/-! ### data -/
def dInts (ns : List Int) : PyData := .list (ns.map .int)
def dGs (gs : List (Int × Int)) : PyData := .list (gs.map fun g => .tuple [.int g.1, .int g.2])
def dRows (rs : List (List Int)) : PyData := .list (rs.map dInts)
theorem canAll : ∀ {xs : List PyData}, (∀ x ∈ xs, x.canLay0 = true) → PyData.canLayAll0 xs = true
  | [], _ => by simp [PyData.canLayAll0]
  | x :: xs, h => by
    rw [PyData.canLayAll0, h x List.mem_cons_self, canAll fun y hy => h y (List.mem_cons_of_mem _ hy)]
    rfl
theorem depAll {n : Nat} : ∀ {xs : List PyData}, (∀ x ∈ xs, x.depth ≤ n) → PyData.depthAll xs ≤ n
  | [], _ => by simp [PyData.depthAll]
  | x :: xs, h => by
    rw [PyData.depthAll]
    exact Nat.max_le.mpr ⟨h x List.mem_cons_self, depAll fun y hy => h y (List.mem_cons_of_mem _ hy)⟩
structure Oks (n : Nat) (d : PyData) : Prop where
  can : d.canLay0 = true
  dep : d.depth ≤ n
theorem Oks.int (i : Int) : Oks 0 (.int i) := ⟨by simp [PyData.canLay0], by simp [PyData.depth]⟩
theorem Oks.mono {n m : Nat} {d : PyData} (h : Oks n d) (k : n ≤ m) : Oks m d := ⟨h.can, Nat.le_trans h.dep k⟩
theorem Oks.lst {n : Nat} {xs : List PyData} (h : ∀ x ∈ xs, Oks n x) : Oks (n + 1) (.list xs) := ⟨by rw [PyData.canLay0]; exact canAll fun x m => (h x m).can, by rw [PyData.depth]; exact Nat.succ_le_succ (depAll fun x m => (h x m).dep)⟩
theorem Oks.tup {n : Nat} {xs : List PyData} (h : ∀ x ∈ xs, Oks n x) : Oks (n + 1) (.tuple xs) := ⟨by rw [PyData.canLay0]; exact canAll fun x m => (h x m).can, by rw [PyData.depth]; exact Nat.succ_le_succ (depAll fun x m => (h x m).dep)⟩
theorem Oks.ints (ns : List Int) : Oks 1 (dInts ns) := .lst fun x m => by
  obtain ⟨n, _, rfl⟩ := List.mem_map.mp m
  exact .int n
theorem Oks.gs (gs : List (Int × Int)) : Oks 2 (dGs gs) := .lst fun x m => by
  obtain ⟨g, _, rfl⟩ := List.mem_map.mp m
  refine .tup fun y hy => ?_
  rcases List.mem_cons.mp hy with rfl | hy
  · exact .int _
  · rw [List.mem_singleton.mp hy]
    exact .int _
theorem Oks.rows (rs : List (List Int)) : Oks 2 (dRows rs) := .lst fun x m => by
  obtain ⟨r, _, rfl⟩ := List.mem_map.mp m
  exact .ints r
theorem Oks.shaped {n : Nat} {d : PyData} (h : Oks n d) (k : n ≤ 64 := by decide) : SeqAt.shaped d = true := by
  unfold SeqAt.shaped
  rw [h.can, decide_eq_true (Nat.le_trans h.dep k)]
  rfl
theorem Oks.eqv {n : Nat} {d : PyData} (h : Oks n d) : PyData.eqv d d = true := SeqAt.eqv_refl d h.can
theorem dp_ints {K : PySem.W.Frag} {H : Hp} {ns : List Int} : DpAll K H (ns.map V.int) (ns.map .int) := by
  induction ns with
  | nil => exact .nil
  | cons n ns ih => exact .cons (.int n) ih
theorem Dp.ints {K : PySem.W.Frag} {H : Hp} {a : Addr} {ns : List Int} (h : H a = some (.lst (ns.map V.int))) : Dp K H (.ref a) (dInts ns) := .lst (SqL.of h) dp_ints
theorem dpAll_of {K : PySem.W.Frag} {H : Hp} : ∀ {vs : List V} {ds : List PyData}, vs.length = ds.length → (∀ (i : Nat) (v : V) (d : PyData), vs[i]? = some v → ds[i]? = some d → Dp K H v d) → DpAll K H vs ds
  | [], [], _, _ => .nil
  | v :: vs, d :: ds, hl, h => .cons (h 0 v d rfl rfl) (dpAll_of (by simpa using hl) fun i v d e f => h (i + 1) v d (by simpa using e) (by simpa using f))
  | [], _ :: _, hl, _ => by simp at hl
  | _ :: _, [], hl, _ => by simp at hl
theorem GsAt.dp {K : PySem.W.Frag} {H : Hp} {B : Addr → Prop} {a : Addr} {ts : List Addr} {gs : List (Int × Int)} (h : GsAt H B a ts gs) : Dp K H (.ref a) (dGs gs) := by
  refine .lst h.seq (dpAll_of (by rw [List.length_map, List.length_map, h.len]) fun i v d e f => ?_)
  obtain ⟨t, g, rfl, eg, et⟩ := h.get e
  rw [List.getElem?_map, eg] at f
  obtain rfl := Option.some.inj f
  exact .tup (SqT.of et) (.cons (.int _) (.cons (.int _) .nil))
theorem RmsAt.dp {K : PySem.W.Frag} {H : Hp} {B : Addr → Prop} {a : Addr} {ts : List Addr} {rs : List (List Int)} (h : RmsAt H B a ts rs) : Dp K H (.ref a) (dRows rs) := by
  refine .lst h.seq (dpAll_of (by rw [List.length_map, List.length_map, h.len]) fun i v d e f => ?_)
  obtain ⟨t, r, rfl, _, er, et⟩ := h.get e
  rw [List.getElem?_map, er] at f
  obtain rfl := Option.some.inj f
  exact Dp.ints et
theorem eqv_nil (gs : List Int) : PyData.eqv (dInts gs) (dInts []) = gs.isEmpty := by
  cases gs with
  | nil => rfl
  | cons x r => rfl
theorem relTy (n : String) : RelV (.ty n) (.type n) := rfl
theorem FnOk.or {P : Program} {w : World} {K : PySem.W.Frag} {mg : Str → Option Value} {base : Heap} {CX : CXT} {k : Nat} {f : Addr} {fd : FuncData} {ps : List Str} {sp sp' : Sp} (F : FnOk P w K mg base CX k f fd ps sp) (F' : FnOk P w K mg base CX k f fd ps sp') :
    FnOk P w K mg base CX k f fd ps (fun vs H Q E => sp vs H Q E ∨ sp' vs H Q E) :=
  ⟨fun vs H Q E h => h.elim (F.len vs H Q E) (F'.len vs H Q E), fun A outer s H args us vs Q E hr e0 hb r h => h.elim (F.run A outer s H args us vs Q E hr e0 hb r) (F'.run A outer s H args us vs Q E hr e0 hb r)⟩
/-! ### built-ins by their names -/
structure Bi (mg : Str → Option Value) : Prop where
  len : mg "len" = none
  range : mg "range" = none
  enumerate : mg "enumerate" = none
  sorted : mg "sorted" = none
  sum : mg "sum" = none
  min : mg "min" = none
  max : mg "max" = none
  isinstance : mg "isinstance" = none
  zip : mg "zip" = none
  list_ : mg "list" = none
  tuple_ : mg "tuple" = none
  int_ : mg "int" = none
  bool_ : mg "bool" = none
  str_ : mg "str" = none
  abs : mg "abs" = none
  repr : mg "repr" = none
  dict_ : mg "dict" = none
  any : mg "any" = none
  all : mg "all" = none
  set_ : mg "set" = none
  reversed : mg "reversed" = none
  ValueError_ : mg "ValueError" = none
  divmod : mg "divmod" = none
end El
namespace El
open PySem PySem.Spec PyProof.Rows L2
/-- how many live in each -/
def lens (rs : List (List Int)) : List Int := rs.map fun r => (r.length : Int)
theorem lens_length (rs : List (List Int)) : (lens rs).length = rs.length := List.length_map _
theorem lens_at {rs : List (List Int)} {i : Nat} {r : List Int} (h : rs[i]? = some r) : (lens rs)[i]? = some (r.length : Int) := by
  unfold lens
  rw [List.getElem?_map, h]
  rfl
theorem cut_to (xs : List V) (j : Nat) : cutV xs none (some (j : Int)) = xs.take j := by
  unfold cutV
  rw [HT.sIx_none, HT.sIx_nat]
  show (List.drop 0 xs).take (min j xs.length - 0) = _
  rw [List.drop_zero, Nat.sub_zero, ← List.take_eq_take_min]
/-- the pair that stands at a value -/
def prOf (H : Hp) : V → Int × Int
  | .ref t => match H t with
    | some (.tup [.int i, .int j]) => (i, j)
    | _ => (0, 0)
  | _ => (0, 0)
theorem prOf_is {H : Hp} {t : Addr} {g : Int × Int} (h : H t = some (.tup [.int g.1, .int g.2])) : prOf H (.ref t) = g := by
  show (match H t with
    | some (.tup [.int i, .int j]) => (i, j)
    | _ => (0, 0)) = g
  rw [h]
theorem GsAt.prs {H : Hp} {B : Addr → Prop} {a : Addr} {ts : List Addr} {gs : List (Int × Int)} (h : GsAt H B a ts gs) : (ts.map V.ref).map (prOf H) = gs := by
  refine List.ext_getElem? fun i => ?_
  rw [List.getElem?_map]
  cases e : (ts.map V.ref)[i]? with
  | none =>
    have hl : (ts.map V.ref).length ≤ i := List.getElem?_eq_none_iff.mp e
    rw [List.length_map, h.len] at hl
    rw [List.getElem?_eq_none_iff.mpr hl]
    rfl
  | some x =>
    obtain ⟨t, g, rfl, eg, et⟩ := h.get e
    rw [eg]
    show some (prOf H (.ref t)) = some g
    rw [prOf_is et]
theorem GsAt.mem {H : Hp} {B : Addr → Prop} {a : Addr} {ts : List Addr} {gs : List (Int × Int)} (h : GsAt H B a ts gs) : ∀ x ∈ ts.map V.ref, ∃ t, x = V.ref t ∧ H t = some (.tup [.int (prOf H x).1, .int (prOf H x).2]) := fun x m => by
  obtain ⟨i, e⟩ := List.mem_iff_getElem?.mp m
  obtain ⟨t, g, rfl, eg, et⟩ := h.get e
  refine ⟨t, rfl, ?_⟩
  rw [prOf_is et]
  exact et
theorem sorted_prs {k : V → Int × Int} {ys xs : List V} {gs : List (Int × Int)} (f : Fit gs) (hx : xs.map k = gs) (hs : SrtO.Srtd (ltP k) ys) (hb : SrtO.Stb (ltP k) ys xs) : ys.reverse.map k = byAge gs := by
  refine byAge_of f ?_ ?_
  · rw [← hx]
    exact ((List.reverse_perm ys).trans hb.perm).map k
  · rw [List.map_reverse, List.pairwise_reverse, List.pairwise_map]
    refine hs.imp fun {a b} h => ?_
    have h' : SrtO.lexB (k b) (k a) = false := h
    rw [SrtO.lexB_no] at h'
    omega
theorem cut_1 (xs : List V) : cutV xs (some 1) none = xs.drop 1 := by
  unfold cutV
  rw [show HT.sIx xs.length 0 (some 1) = min 1 xs.length from HT.sIx_nat xs.length 0 1, HT.sIx_none]
  cases xs with
  | nil => rfl
  | cons x r =>
    rw [show min 1 (x :: r).length = 1 by
      rw [List.length_cons]
      omega]
    show (List.take ((x :: r).length - 1) r) = r
    rw [List.length_cons, Nat.add_sub_cancel]
    exact List.take_length
theorem lens_falls {gs : List (Int × Int)} (f : Fit gs) {i : Nat} {x y : Int} (h1 : (lens (settle gs))[i]? = some x) (h2 : ((lens (settle gs)).drop 1)[i]? = some y) : ¬ x < y := by
  rw [List.getElem?_drop] at h2
  unfold lens at h1 h2
  rw [List.getElem?_map] at h1 h2
  have hp := settleL_falls (byAge gs) f.byAge.pos
  cases e1 : (settle gs)[i]? with
  | none => rw [e1] at h1; cases h1
  | some r =>
    cases e2 : (settle gs)[1 + i]? with
    | none => rw [e2] at h2; cases h2
    | some s =>
      rw [e1] at h1
      rw [e2] at h2
      obtain rfl : (r.length : Int) = x := Option.some.inj h1
      obtain rfl : (s.length : Int) = y := Option.some.inj h2
      obtain ⟨l1, q1⟩ := List.getElem?_eq_some_iff.mp (show (settleL (byAge gs))[i]? = some r from e1)
      obtain ⟨l2, q2⟩ := List.getElem?_eq_some_iff.mp (show (settleL (byAge gs))[1 + i]? = some s from e2)
      have := List.pairwise_iff_getElem.mp hp i (1 + i) l1 l2 (by omega)
      rw [q1, q2] at this
      omega
theorem dget_pks {H : Hp} {d : Addr} {gs : List (Int × Int)} {g : Int × Int} (h : H d = some (.dK (pks gs))) (f : Fit gs) (m : g ∈ gs) : DGet H d (.int g.1) (some (.int g.2)) := by
  have q := DGet.k (k := Sum.inl g.1) h
  rw [pks_some f.nd m] at q
  exact q
theorem log_lt {m : Int} {k : Nat} (h0 : 0 < m) (h : m < 2 ^ k) : m.natAbs.log2 < k := by
  obtain ⟨j, rfl⟩ : ∃ j : Nat, m = j := ⟨m.toNat, by omega⟩
  have h' : j < 2 ^ k := by exact_mod_cast h
  rw [Int.natAbs_natCast]
  exact (Nat.log2_lt (by omega)).mpr h'
theorem GsAt.mix {H : Hp} {B B' : Addr → Prop} {a m : Addr} {ts : List Addr} {gs : List (Int × Int)} {ys : List V} (h : GsAt H B a ts gs) (e : H m = some (.lst ys)) (bm : B' m) (hb : ∀ b, B b → B' b) (p : ys.Perm (ts.map V.ref)) :
    ∃ ts' gs', GsAt H B' m ts' gs' ∧ gs'.Perm gs := by
  have hm : ∀ y ∈ ys, ∃ t, y = V.ref t ∧ t ∈ ts := fun y hy => by
    obtain ⟨t, ht, rfl⟩ := List.mem_map.mp (p.mem_iff.mp hy)
    exact ⟨t, rfl, ht⟩
  obtain ⟨us, rfl, hu⟩ : ∃ us : List Addr, ys = us.map V.ref ∧ ∀ u ∈ us, u ∈ ts := by
    clear p e
    induction ys with
    | nil => exact ⟨[], rfl, fun u hu => absurd hu (by simp)⟩
    | cons y ys ih =>
      obtain ⟨t, rfl, ht⟩ := hm y List.mem_cons_self
      obtain ⟨us, rfl, hu⟩ := ih fun z hz => hm z (List.mem_cons_of_mem _ hz)
      exact ⟨t :: us, rfl, fun u h => by
        rcases List.mem_cons.mp h with rfl | h
        · exact ht
        · exact hu u h⟩
  refine ⟨us, (us.map V.ref).map (prOf H), ⟨e, bm, by rw [List.length_map, List.length_map], fun i t g e1 e2 => ?_, fun t ht => hb t (h.b t (hu t ht))⟩, ?_⟩
  · rw [List.getElem?_map, List.getElem?_map, e1] at e2
    have e2' : prOf H (.ref t) = g := Option.some.inj e2
    obtain ⟨j, ej⟩ := List.mem_iff_getElem?.mp (hu t (List.mem_of_getElem? e1))
    obtain ⟨t', g', e3, eg, et⟩ := h.get (i := j) (x := .ref t) (by rw [List.getElem?_map, ej]; rfl)
    injection e3 with e3
    subst e3
    rw [prOf_is et] at e2'
    rw [← e2']
    exact et
  · have := p.map (prOf H)
    rw [h.prs] at this
    exact this
/-- put in anywhere -/
theorem GsAt.ins {H : Hp} {B : Addr → Prop} {a : Addr} {ts : List Addr} {gs : List (Int × Int)} {ys : List V} (h : GsAt H B a ts gs) (hn : a ∉ ts) {q : Addr} {g : Int × Int} (e : H q = some (.tup [.int g.1, .int g.2])) (bq : B q) (p : ys.Perm (ts.map V.ref ++ [.ref q])) :
    ∃ ts' gs', GsAt (upd H a (.lst ys)) B a ts' gs' ∧ gs'.Perm (gs ++ [g]) ∧ a ∉ ts' ∧ ys = ts'.map V.ref := by
  have nq : q ≠ a := fun z => by
    rw [z, h.top] at e
    cases e
  have hm : ∀ y ∈ ys, ∃ t, y = V.ref t ∧ t ∈ ts ++ [q] := fun y hy => by
    rcases List.mem_append.mp (p.mem_iff.mp hy) with m | m
    · obtain ⟨t, ht, rfl⟩ := List.mem_map.mp m
      exact ⟨t, rfl, List.mem_append_left _ ht⟩
    · exact ⟨q, List.mem_singleton.mp m, List.mem_append_right _ (List.mem_singleton.mpr rfl)⟩
  obtain ⟨us, rfl, hu⟩ : ∃ us : List Addr, ys = us.map V.ref ∧ ∀ u ∈ us, u ∈ ts ++ [q] := by
    clear p
    induction ys with
    | nil => exact ⟨[], rfl, fun u hu => absurd hu (by simp)⟩
    | cons y ys ih =>
      obtain ⟨t, rfl, ht⟩ := hm y List.mem_cons_self
      obtain ⟨us, rfl, hu⟩ := ih fun z hz => hm z (List.mem_cons_of_mem _ hz)
      exact ⟨t :: us, rfl, fun u h => by
        rcases List.mem_cons.mp h with rfl | h
        · exact ht
        · exact hu u h⟩
  have ha : ∀ u ∈ us, u ≠ a ∧ B u ∧ ∃ x : Int × Int, H u = some (.tup [.int x.1, .int x.2]) := fun u m => by
    rcases List.mem_append.mp (hu u m) with m | m
    · obtain ⟨j, ej⟩ := List.mem_iff_getElem?.mp m
      obtain ⟨t', g', e3, eg, et⟩ := h.get (i := j) (x := .ref u) (by rw [List.getElem?_map, ej]; rfl)
      injection e3 with e3
      subst e3
      exact ⟨fun z => hn (z ▸ m), h.b u m, g', et⟩
    · rw [List.mem_singleton.mp m]
      exact ⟨nq, bq, g, e⟩
  refine ⟨us, (us.map V.ref).map (prOf H), ⟨upd_same, h.ba, by rw [List.length_map, List.length_map], fun i t x e1 e2 => ?_, fun t m => (ha t m).2.1⟩, ?_, fun m => (ha a m).1 rfl, rfl⟩
  · rw [List.getElem?_map, List.getElem?_map, e1] at e2
    have e2' : prOf H (.ref t) = x := Option.some.inj e2
    obtain ⟨n1, _, y, ey⟩ := ha t (List.mem_of_getElem? e1)
    rw [prOf_is ey] at e2'
    subst e2'
    rw [upd_ne n1]
    exact ey
  · have := p.map (prOf H)
    rw [List.map_append, h.prs] at this
    rw [show [V.ref q].map (prOf H) = [g] by show [prOf H (.ref q)] = [g]; rw [prOf_is e]] at this
    exact this
theorem GsAt.cat {H : Hp} {B : Addr → Prop} {a l : Addr} {ts : List Addr} {gs : List (Int × Int)} (h : GsAt H B a ts gs) {q : Addr} {g : Int × Int} (e : H q = some (.tup [.int g.1, .int g.2])) (el : H l = some (.lst (ts.map V.ref ++ [.ref q]))) :
    GsAt H (fun _ => True) l (ts ++ [q]) (gs ++ [g]) := by
  refine ⟨by rw [List.map_append]; exact el, trivial, by rw [List.length_append, List.length_append, h.len]; rfl, fun i t x e1 e2 => ?_, fun _ _ => trivial⟩
  by_cases hi : i < ts.length
  · rw [List.getElem?_append_left hi] at e1
    rw [List.getElem?_append_left (by rw [← h.len]; exact hi)] at e2
    exact h.at' i t x e1 e2
  · have hi' : i = ts.length := by
      have := at_lt e1
      rw [List.length_append, List.length_singleton] at this
      omega
    subst hi'
    rw [List.getElem?_append_right (Nat.le_refl _), Nat.sub_self] at e1
    rw [h.len, List.getElem?_append_right (Nat.le_refl _), Nat.sub_self] at e2
    obtain rfl : q = t := Option.some.inj e1
    obtain rfl : g = x := Option.some.inj e2
    exact e
theorem inV_ints (x : Int) (ns : List Int) : inV (.int x) (ns.map V.int) = decide (x ∈ ns) := by
  unfold inV
  rw [List.any_map]
  induction ns with
  | nil => rfl
  | cons n ns ih =>
    rw [List.any_cons, ih]
    have e : ((fun y => eqV y (V.int x)) ∘ V.int) n = decide (x = n) := by
      show eqV (.int n) (.int x) = decide (x = n)
      have e2 : eqV (.int n) (.int x) = decide (n = x) := by
        unfold eqV
        first | rfl | simp
      rw [e2]
      by_cases h : n = x
      · subst h; simp
      · rw [decide_eq_false h, decide_eq_false (fun z => h z.symm)]
    rw [e]
    by_cases h : x = n
    · subst h
      simp
    · rw [decide_eq_false h, Bool.false_or]
      by_cases h2 : x ∈ ns
      · rw [decide_eq_true h2, decide_eq_true (List.mem_cons_of_mem _ h2)]
      · rw [decide_eq_false h2, decide_eq_false (fun z => (List.mem_cons.mp z).elim h h2)]
theorem flat_ints (ns : List Int) : (ns.map V.int).all flatV = true := by
  rw [List.all_map, List.all_eq_true]
  intro x _
  rfl
theorem eqvAll_ints : ∀ a b : List Int, PyData.eqvAll (a.map .int) (b.map .int) = decide (a = b)
  | [], [] => rfl
  | [], y :: b => by
    rw [decide_eq_false (by simp)]
    rfl
  | x :: a, [] => by
    rw [decide_eq_false (by simp)]
    rfl
  | x :: a, y :: b => by
    rw [List.map_cons, List.map_cons, PyData.eqvAll, eqvAll_ints a b]
    show ((x == y) && decide (a = b)) = _
    by_cases h : x = y
    · subst h
      by_cases h2 : a = b
      · subst h2
        simp
      · rw [decide_eq_false h2, decide_eq_false (fun z => h2 (List.cons.inj z).2)]
        simp
    · have : (x == y) = false := by simpa using h
      rw [this, decide_eq_false (fun z => h (List.cons.inj z).1)]
      rfl
theorem eqv_ints (a b : List Int) : PyData.eqv (dInts a) (dInts b) = decide (a = b) := by
  unfold dInts
  rw [PyData.eqv]
  exact eqvAll_ints a b
theorem cut_at (xs : List V) (k : Nat) : cutV xs (some (k : Int)) (some ((k : Int) + 1)) = (xs.drop k).take 1 := by
  unfold cutV
  rw [HT.sIx_nat, show (k : Int) + 1 = ((k + 1 : Nat) : Int) by omega, HT.sIx_nat]
  by_cases h : k < xs.length
  · rw [Nat.min_eq_left (by omega), Nat.min_eq_left (by omega), Nat.add_sub_cancel_left]
  · have h1 : min k xs.length = xs.length := by omega
    have h2 : min (k + 1) xs.length = xs.length := by omega
    rw [h1, h2, Nat.sub_self, List.take_zero, List.drop_of_length_le (show xs.length ≤ k by omega)]
    rfl
theorem drop_take1 (L : List Int) (k : Nat) : (L.drop k).take 1 = L[k]?.toList := by
  by_cases h : k < L.length
  · rw [List.getElem?_eq_getElem h, List.drop_eq_getElem_cons h]
    rfl
  · rw [List.getElem?_eq_none (by omega), List.drop_of_length_le (by omega)]
    rfl
end El
namespace El
open PySem PySem.Spec PyProof.Rows L2
section
variable {X : Cx}
/-- the walk over a list -/
theorem gathers_list {pins : List (Addr × Obj)} {σ : L2.St} {H : Hp} {s : Shared} {a : Addr} {xs : List V} (I : Inv X pins σ H s) (h : SqL X.K H a xs) : xs.length ≤ sizeLine ∧ Gathers X s (.ref a) xs := by
  have ⟨us, r, ⟨o, n, at_a, is_list, _, data⟩, few⟩ := I.list h
  refine ⟨few, fun R go => wpAny_collect_seq a (.inl rfl) at_a is_list data (fun h' grown => ?_) ?_⟩
  · rw [List.toList_toArray]
    exact go us h' s.toks r grown
  · rw [List.size_toArray]
    exact r.length ▸ few
/-- a value that is an object's name, seen as ours -/
def asOurs : Value → V
  | .ref a => .ref a
  | _ => .non
/-- sorted(xs, reverse=b) of a list of pairs of ints -/
def rSortedPK (K : PySem.W.Frag) (b : Bool) : List V → List V → Hp → VK → Prop := fun vs zs H Q => ∃ (a : Addr) (xs : List V) (k : V → Int × Int), vs = [V.ref a] ∧ zs = [.bl b] ∧ SqL K H a xs ∧ (∀ x ∈ xs, ∃ t, x = V.ref t ∧ H t = some (.tup [.int (k x).1, .int (k x).2])) ∧
  ∀ ys p, SrtO.Srtd (ltP k) ys → ys.Perm xs → H p = none → Q (.ref p) (upd H p (.lst (if b = true then ys.reverse else ys)))
theorem cr_sortedPK {b : Bool} (_ : X.calm = true) : CallRK X (.builtin "sorted") [Str.ofString "reverse"] (rSortedPK X.K b) := by
  rintro pins s σ H _ _ us ws Q I one by_kw ⟨a, xs, k, rfl, rfl, here, pairs, q⟩
  obtain ⟨v, w, rfl, rfl, rfl, rfl⟩ : ∃ v w, us = [v] ∧ ws = [w] ∧ v = .ref a ∧ w = .bool b := by
    cases one with | cons e1 t1 => cases t1; cases by_kw with | cons e2 t2 => cases t2; exact ⟨_, _, rfl, rfl, e1, e2⟩
  have ⟨few, walk⟩ := gathers_list I here
  have known : ∀ {x : V} {u : Value}, x ∈ xs → RelV x u → asOurs u = x := fun {x u} m e => by
    have ⟨t, ex, _⟩ := pairs x m
    subst ex
    exact congrArg asOurs e
  refine sorted_gathered I few walk (SrtO.swo_lex fun u => k (asOurs u)) (fun us s' l two r J free => ?_) fun P l hP perm up free => ?_
  · refine SrtO.pairs_sortableO (k := fun u => k (asOurs u)) (Nat.lt_of_lt_of_le Nat.two_pos two) (fun u m => ?_) fun o at_l => ?_
    · obtain ⟨P, hP, rfl, rfl⟩ := partners_of r
      have ⟨⟨x, u⟩, mp, eu⟩ := List.mem_map.mp m
      subst eu
      have mx := List.mem_map_of_mem (f := Prod.fst) mp
      have ⟨t, ex, ht⟩ := pairs x mx
      have apart : t ≠ l := fun e => by rw [e, free] at ht; cases ht
      have ⟨_, vs, rv, o, at_t, is_tup, n, data⟩ := J.hok t _ ((upd_ne apart).trans ht)
      rw [known mx (hP _ mp)]
      cases rv with | cons e1 rv => cases rv with | cons e2 rv => cases rv; exact e1.elim fun t1 e1 => e2.elim fun t2 e2 => ⟨t, o, t1, t2, n, by have := hP _ mp; rw [show (x, u).1 = V.ref t from ex] at this; exact this, at_t, is_tup, by rw [data, e1, e2]⟩
    · have ⟨_, vs, e, _, there⟩ := J.hok l _ upd_same
      rw [there] at at_l
      cases at_l
      have differ : Value.type "list" ≠ Value.type "tuple" := by decide
      exact differ
  · have sorts : SrtO.Srtd (ltP k) (P.map Prod.fst) := by
      rw [SrtO.Srtd, List.pairwise_map] at up ⊢
      refine up.imp_of_mem fun {p p'} m m' h => ?_
      have on := fun {p : V × Value} (m : p ∈ P) => known (perm.mem_iff.mp (List.mem_map_of_mem (f := Prod.fst) m)) (hP p m)
      rw [on m, on m'] at h
      exact h
    exact q _ l sorts perm free
/-- sorted by age and patience, turned round: from the eldest on -/
theorem sorted_down {k : V → Int × Int} {ys xs : List V} {gs : List (Int × Int)} (f : Fit gs) (hx : xs.map k = gs) (hs : SrtO.Srtd (ltP k) ys) (hb : ys.Perm xs) : ys.reverse.map k = byAge gs := by
  refine byAge_of f ?_ ?_
  · rw [← hx]
    exact ((List.reverse_perm ys).trans hb).map k
  · rw [List.map_reverse, List.pairwise_reverse, List.pairwise_map]
    refine hs.imp fun {a b} h => ?_
    have h' : SrtO.lexB (k b) (k a) = false := h
    rw [SrtO.lexB_no] at h'
    omega
end
end El
namespace El
open PySem PySem.Spec PyProof.Rows L2
section
variable {X : Cx}
/-- len of a set of ints -/
theorem call_lenSI : CallR X (.builtin "len") (fun xs H Q => ∃ (a : Addr) (S : Int → Bool) (n : Nat), xs = [V.ref a] ∧ H a = some (SetO X.w a S n) ∧ n ≤ 100000 ∧ Q (.int n) H) := by
  intro pins s σ H xs us Q I r h
  obtain ⟨a, S, n, rfl, ha, hn, q⟩ := h
  rw [Vals.ref1 r]
  obtain ⟨o, es, ep, t, ho, hex, hd, _, _, _, hf, he⟩ := (setO_get I ha).setOf (P := X.prog)
  refine call_len_set ho hex hd hf (by rw [he]; exact Int.lt_of_le_of_lt (show (n : Int) ≤ 100000 by omega) (by decide)) ⟨.int n, H, I.tok _, ⟨_, by rw [he]⟩, q⟩
end
theorem piListK {X : Cx} {tg l : Expr} {tl : TE} (K : PySem.W.Frag) (hl : PE X l tl) (e : X.K = K := by rfl) : PI X tg l (iList K tl) := by
  subst e
  exact pi_list hl
/-- the outer walk of a comprehension with two fors, and the inner one -/
theorem out_it {J : It} {n : Nat} {G : Hp → Prop} {Y : Nat → Hp → V → Hp → Prop} (w : Walk J n G Y) {Qd : Hp → Prop} {H0 : Hp} {bd : (Hp → Prop) → V → Hp → Prop} (Pv : Nat → Hp → Prop) (h0 : Pv 0 H0) (hG : ∀ i H, i ≤ n → Pv i H → G H)
    (hs : ∀ i x H H', i < n → Pv i H → Y i H x H' → bd (Pv (i + 1)) x H') (hd : ∀ H, Pv n H → Qd H) :
    ∃ W : Nat → Nat → Hp → Prop, (∃ m, W 0 m H0) ∧ ∀ i m H, W i m H → (J.stop i H ∧ Qd H) ∨ (J.go i H ∧ ∃ Nx : Hp → Prop, (∀ H', Nx H' → ∃ m', m' < m ∧ W (i + 1) m' H') ∧ ∀ x H', J.yld i H x H' → bd Nx x H') := by
  refine ⟨fun i m H => m = n - i ∧ i ≤ n ∧ Pv i H, ⟨n, by simp, Nat.zero_le _, h0⟩, ?_⟩
  rintro i m H ⟨rfl, hi, p⟩
  have q := hG i H hi p
  by_cases hlt : i < n
  · exact .inr ⟨w.goes i H hlt q, Pv (i + 1), fun H' p' => ⟨n - (i + 1), by omega, rfl, hlt, p'⟩, fun x H' y => hs i x H H' hlt p (w.yields i H x H' hlt q y)⟩
  · have e : i = n := by omega
    subst e
    exact .inl ⟨w.stops H q, hd H p⟩
theorem cut_from (xs : List V) (j : Nat) : cutV xs (some (j : Int)) none = xs.drop j := by
  unfold cutV
  rw [HT.sIx_none, HT.sIx_nat]
  show (List.drop (min j xs.length) xs).take (xs.length - min j xs.length) = _
  by_cases h : j ≤ xs.length
  · rw [Nat.min_eq_left h, List.take_of_length_le (by rw [List.length_drop]; omega)]
  · rw [Nat.min_eq_right (by omega), List.drop_of_length_le (Nat.le_refl _), List.drop_of_length_le (show xs.length ≤ j by omega), List.take_nil]
/-- a list of lists of ints, read alone -/
structure RdAt (H : Hp) (o : Addr) (ts : List Addr) (rs : List (List Int)) : Prop where
  top : H o = some (.lst (ts.map V.ref))
  len : ts.length = rs.length
  at' : ∀ (i : Nat) (t : Addr) (r : List Int), ts[i]? = some t → rs[i]? = some r → H t = some (.lst (r.map V.int))
theorem RdAt.same {H H' : Hp} {a : Addr} {ts : List Addr} {rs : List (List Int)} (h : RdAt H a ts rs) (k : Same H H') : RdAt H' a ts rs :=
  ⟨k _ _ h.top, h.len, fun i t g e f => k _ _ (h.at' i t g e f)⟩
theorem RdAt.seq {K : PySem.W.Frag} {H : Hp} {a : Addr} {ts : List Addr} {rs : List (List Int)} (h : RdAt H a ts rs) : SqL K H a (ts.map V.ref) := SqL.of h.top
theorem RmsAt.rd {H : Hp} {B : Addr → Prop} {a : Addr} {ts : List Addr} {rs : List (List Int)} (h : RmsAt H B a ts rs) : RdAt H a ts rs := ⟨h.top, h.len, h.at'⟩
theorem RdAt.get {H : Hp} {a : Addr} {ts : List Addr} {rs : List (List Int)} (h : RdAt H a ts rs) {i : Nat} {x : V} (e : (ts.map V.ref)[i]? = some x) : ∃ t r, x = .ref t ∧ ts[i]? = some t ∧ rs[i]? = some r ∧ H t = some (.lst (r.map V.int)) := by
  obtain ⟨t, e1, rfl⟩ := refs_at e
  have hi := at_lt e1
  rw [h.len] at hi
  obtain ⟨g, e2⟩ := at_some hi
  exact ⟨t, g, rfl, e1, e2, h.at' i t g e1 e2⟩
theorem pks_get {gs : List (Int × Int)} (nd : (gs.map (·.1)).Nodup) {a : Int} (m : a ∈ gs.map (·.1)) : valV (pks gs) (Sum.inl a) = some (.int (pof gs a)) := by
  obtain ⟨g, hg, rfl⟩ := List.mem_map.mp m
  rw [pks_some nd hg, pof_is nd hg]
theorem dget_pof {H : Hp} {d : Addr} {gs : List (Int × Int)} (h : H d = some (.dK (pks gs))) (nd : (gs.map (·.1)).Nodup) {a : Int} (m : a ∈ gs.map (·.1)) : DGet H d (.int a) (some (.int (pof gs a))) := by
  have z := DGet.k (k := Sum.inl a) h
  rw [pks_get nd m] at z
  exact z
theorem take_snoc_flat {rs : List (List Int)} {i : Nat} {r : List Int} (e : rs[i]? = some r) : (rs.take (i + 1)).flatten = (rs.take i).flatten ++ r := by
  rw [take_snoc e, List.flatten_append, List.flatten_cons, List.flatten_nil, List.append_nil]
theorem flat_split {rs : List (List Int)} {i j : Nat} {r : List Int} {a : Int} (nd : rs.flatten.Nodup) (e : rs[i]? = some r) (e2 : r[j]? = some a) : a ∉ (rs.take i).flatten ++ r.take j := by
  have h1 : rs.flatten = (rs.take i).flatten ++ (r ++ (rs.drop (i + 1)).flatten) := by
    have hi := at_lt e
    have h2 : rs = rs.take i ++ r :: rs.drop (i + 1) := by
      have := List.getElem_cons_drop (as := rs) (i := i) hi
      rw [List.getElem?_eq_getElem hi] at e
      rw [Option.some.inj e] at this
      rw [this, List.take_append_drop]
    rw [congrArg List.flatten h2, List.flatten_append, List.flatten_cons]
  have h3 : r = r.take j ++ a :: r.drop (j + 1) := by
    have hj := at_lt e2
    have := List.getElem_cons_drop (as := r) (i := j) hj
    rw [List.getElem?_eq_getElem hj] at e2
    rw [Option.some.inj e2] at this
    rw [this, List.take_append_drop]
  rw [h1] at nd
  generalize (rs.take i).flatten = x at nd ⊢
  generalize (rs.drop (i + 1)).flatten = y at nd
  rw [h3] at nd
  obtain ⟨_, n2, n3⟩ := List.nodup_append.mp nd
  intro m
  rcases List.mem_append.mp m with m | m
  · exact n3 a m a (List.mem_append_left _ (List.mem_append_right _ List.mem_cons_self)) rfl
  · obtain ⟨n4, _, _⟩ := List.nodup_append.mp n2
    obtain ⟨_, _, n7⟩ := List.nodup_append.mp n4
    exact n7 a m a List.mem_cons_self rfl
theorem flat_mem {rs : List (List Int)} {i j : Nat} {r : List Int} {a : Int} (e : rs[i]? = some r) (e2 : r[j]? = some a) : a ∈ rs.flatten :=
  List.mem_flatten.mpr ⟨r, List.mem_of_getElem? e, List.mem_of_getElem? e2⟩
end El
namespace El
open PySem PySem.Spec PyProof.Rows L2
section
variable {X : Cx}
theorem ptTruthK {a : Expr} {ta : TE} (K : PySem.W.Frag) (ha : PE X a ta) (he : ∀ whole, isTrue a X.env whole = (do let v ← whole; standAt a.pos; holding [v] (truthy v))) (e : X.K = K := by rfl) :
    PT X a (tTru K ta) := by
  subst e
  exact pt_truth ha he
/-! ### xs[::s], s 1 or -1 -/
def tStepL (K : PySem.W.Frag) (te ts : TE) : TE := fun σ H Q => te σ H fun x H1 => ts σ H1 fun y H2 => ∃ c, y = .int c ∧ ∃ a xs, x = .ref a ∧ (c = 1 ∨ c = -1) ∧ SqL K H2 a xs ∧ ∀ p, H2 p = none → Q (.ref p) (upd H2 p (.lst (if c = 1 then xs else xs.reverse)))
/-- what such a cut picks -/
theorem pick_way (us : List Value) {c : Int} (h : c = 1 ∨ c = -1) : slicePick us.toArray none none (some c) = (if c = 1 then us else us.reverse).toArray := by
  rcases h with rfl | rfl
  · show slicePick us.toArray none none none = _
    rw [slicePick_cut, HT.sIx_none, HT.sIx_none, List.drop_zero, Nat.sub_zero, List.take_length]
    rfl
  · exact PySem.W.krv_pick us.toArray
/-- a cut lies there that names its step alone -/
def StepAt (s : Shared) (i : Value) (c : Int) : Prop := ∃ p u, i = .ref p ∧ s.heap.IsSliceOf p .none .none (.int c u)
theorem step_made {st : Expr} {ts : TE} {p : Pos} {pins : List (Addr × Obj)} {σ : L2.St} {H : Hp} {s : Shared} {R : Value → Shared → Prop} {D : Int → Hp → Prop} (hs : PE X st ts) (I : Inv X pins σ H s)
    (h : ts σ H fun y H' => ∃ c, y = .int c ∧ D c H') (go : ∀ c H' i s', Inv X pins σ H' s' → StepAt s' i c → D c H' → R i s') : wpAny (model X.prog X.w) X.A (eval (.Slice none none (some st) p) X.env) R X.xe s := by
  refine wpAny_Slice (wpAny_pure (wpAny_pure (thn (hs.run pins s σ H _ I h) ?_)))
  rintro _ s' ⟨_, H', J, e, c, rfl, d⟩
  obtain ⟨u, rfl⟩ : ∃ u, _ = Value.int c u := e
  exact go c H' _ _ (J.kept (t' := s'.toks) fun _ _ => Heap.get?_push_of_some _) ⟨_, u, rfl, .new ..⟩ d
theorem list_cut {pins : List (Addr × Obj)} {σ : L2.St} {H : Hp} {s : Shared} {Q : VK} {a : Addr} {xs : List V} {i : Value} {c : Int} (I : Inv X pins σ H s) (here : SqL X.K H a xs) (cut : StepAt s i c) (h : c = 1 ∨ c = -1)
    (q : ∀ p, H p = none → Q (.ref p) (upd H p (.lst (if c = 1 then xs else xs.reverse)))) : wpAny (model X.prog X.w) X.A (getItem (.ref a) i) (EP X pins σ Q) X.xe s := by
  have ⟨us, r, at_a, few⟩ := I.list here
  have ⟨_, _, e, at_i⟩ := cut
  subst e
  have fits : us.toArray.size ≤ sizeLine := Nat.le_trans (Nat.le_of_eq (us.size_toArray.trans r.length.symm)) few
  have turned : Vals (if c = 1 then xs else xs.reverse) (if c = 1 then us else us.reverse) := by
    split
    · exact r
    · exact r.reverse
  have same : (if c = 1 then xs else xs.reverse).length = xs.length := by
    split
    · rfl
    · exact xs.length_reverse
  refine wpAny_getItem_list_slice at_a.isList at_i .none .none (.int c _) (fun z => by rcases h with rfl | rfl <;> cases z) ?_ fits
  rw [pick_way us h]
  have J := I.laid (a := s.heap.objs.size) (o := .lst (if c = 1 then xs else xs.reverse)) (t' := s.toks) (fun _ _ => Heap.get?_push_of_some _) (Nat.le_refl _) ⟨same ▸ few, _, 0, turned, Heap.get?_push_size _ rfl⟩
  exact ⟨.ref _, _, J, rfl, q _ (I.hok.fresh (Nat.le_refl _))⟩
theorem pe_stepL {e st : Expr} {te ts : TE} {p3 pos : Pos} (he : PE X e te) (hs : PE X st ts) : PE X (.Subscript e (.Slice none none (some st) p3) pos) (tStepL X.K te ts) where
  run pins s σ H Q I h := by
    refine Subscript_ (thn (he.run pins s σ H _ I h) ?_)
    rintro v s1 ⟨x, H1, J1, r, more⟩
    refine step_made hs J1 more ?_
    rintro c H2 i s2 J2 cut ⟨a, xs, rfl, way, here, q⟩
    cases r
    have ⟨_, _, at_a, _⟩ := J2.list here
    exact tail_any (ops := [.ref a, i]) at_a.isList.typeIs PySem.slot_list_getitem.lookup (list_cut J2 here cut way q) (by have ⟨_, _, e, _⟩ := cut; subst e; with_unfolding_all rfl)
end
theorem mergeK_pks {gs : List (Int × Int)} (nd : (gs.map (·.1)).Nodup) : mergeK [] (pks gs) = pks gs := by
  suffices h : ∀ (n : Nat), n ≤ gs.length → mergeK [] (pks (gs.take n)) = pks (gs.take n) by
    have := h gs.length (Nat.le_refl _)
    rw [take_full] at this
    exact this
  intro n
  induction n with
  | zero =>
    intro _
    rw [List.take_zero]
    rfl
  | succ n ih =>
    intro hn
    obtain ⟨g, eg⟩ := at_some hn
    have ht : (gs.take n).map (·.1) = (gs.map (·.1)).take n := List.map_take
    have no : g.1 ∉ (gs.take n).map (·.1) := fun m => by
      rw [ht] at m
      have e : (gs.map (·.1))[n]? = some g.1 := by rw [List.getElem?_map, eg]; rfl
      obtain ⟨i, hi⟩ := List.mem_iff_getElem?.mp m
      rw [List.getElem?_take] at hi
      split at hi
      · have := nd_ix nd hi e
        omega
      · cases hi
    rw [take_snoc eg]
    unfold mergeK at ih ⊢
    rw [pks_snoc, List.foldl_append, ih (by omega)]
    show putK (pks (gs.take n)) (Sum.inl g.1) (V.int g.2) = _
    rw [putK_snoc no, pks_snoc]
theorem GsAt.paired {K : PySem.W.Frag} {H : Hp} {B : Addr → Prop} {a : Addr} {ts : List Addr} {gs : List (Int × Int)} (h : GsAt H B a ts gs) : Paired (fun p kv => SqT K H p [kV kv.1, kv.2]) ts (pks gs) := by
  have hl := h.len
  have ha := h.at'
  clear h
  induction ts generalizing gs with
  | nil =>
    cases gs with
    | nil => exact .nil
    | cons g gs => simp at hl
  | cons t ts ih =>
    cases gs with
    | nil => simp at hl
    | cons g gs =>
      refine .cons (SqT.of (ha 0 t g rfl rfl)) (ih (gs := gs) (by simpa using hl) fun i t' g' e1 e2 => ha (i + 1) t' g' (by simpa using e1) (by simpa using e2))
theorem RdAt.of {H : Hp} {a : Addr} {ts : List Addr} {rs : List (List Int)} (h : RdAt H a ts rs) {i : Nat} {r : List Int} (e : rs[i]? = some r) : ∃ t, ts[i]? = some t ∧ H t = some (.lst (r.map V.int)) := by
  have hi := at_lt e
  rw [← h.len] at hi
  obtain ⟨t, e2⟩ := at_some hi
  exact ⟨t, e2, h.at' i t r e2 e⟩
theorem flat_in {rs : List (List Int)} {r : List Int} (m : r ∈ rs) : r.length ≤ rs.flatten.length := room_le_flat rs r m
theorem full_snoc {rs : List (List Int)} {i : Nat} {r : List Int} (e : rs[i]? = some r) : lensD (rs.take (i + 1)) = if r = [] then lensD (rs.take i) else lensD (rs.take i) ++ [(r.length : Int)] := by
  unfold lensD full
  rw [take_snoc e, List.filter_append]
  cases r with
  | nil => rw [List.filter_cons_of_neg (by simp), List.filter_nil, List.append_nil, if_pos rfl]
  | cons x r => rw [List.filter_cons_of_pos (by simp), List.filter_nil, List.map_append, if_neg (by simp)]; rfl
theorem lensD_len (rs : List (List Int)) : (lensD rs).length ≤ rs.length := by
  unfold lensD full
  rw [List.length_map]
  exact List.length_filter_le _ _
end El
namespace El
open PySem PySem.Spec PyProof.Rows L2
theorem map_erase {α β : Type} (f : α → β) : ∀ (l : List α) (k : Nat), (l.map f).eraseIdx k = (l.eraseIdx k).map f
  | [], _ => rfl
  | a :: l, 0 => rfl
  | a :: l, k + 1 => by
    show f a :: (l.map f).eraseIdx k = f a :: (l.eraseIdx k).map f
    rw [map_erase f l k]
theorem RdAt.keepOn {H H' : Hp} {a : Addr} {ts : List Addr} {rs : List (List Int)} (h : RdAt H a ts rs) (k : ∀ b u, (b = a ∨ b ∈ ts) → H b = some u → H' b = some u) : RdAt H' a ts rs :=
  ⟨k _ _ (.inl rfl) h.top, h.len, fun i t r e f => k _ _ (.inr (List.mem_of_getElem? e)) (h.at' i t r e f)⟩
theorem RdAt.pop {H : Hp} {o : Addr} {ts : List Addr} {rs : List (List Int)} (h : RdAt H o ts rs) (hn : o ∉ ts) (k : Nat) : RdAt (upd H o (.lst ((ts.map V.ref).eraseIdx k))) o (ts.eraseIdx k) (rs.eraseIdx k) := by
  refine ⟨by rw [upd_same, map_erase], ?_, fun i t r e1 e2 => ?_⟩
  · rw [List.length_eraseIdx, List.length_eraseIdx, h.len]
  · have nt : t ≠ o := fun z => hn (z ▸ List.mem_of_mem_eraseIdx (List.mem_of_getElem? e1))
    rw [upd_ne nt]
    rw [List.getElem?_eraseIdx] at e1 e2
    split at e1
    · rename_i hi
      rw [if_pos hi] at e2
      exact h.at' _ _ _ e1 e2
    · rename_i hi
      rw [if_neg hi] at e2
      exact h.at' _ _ _ e1 e2
theorem RdAt.cat {H : Hp} {o1 o2 c : Addr} {ts1 ts2 : List Addr} {rs1 rs2 : List (List Int)} (h1 : RdAt H o1 ts1 rs1) (h2 : RdAt H o2 ts2 rs2) (hc : H c = none) :
    RdAt (upd H c (.lst (ts1.map V.ref ++ ts2.map V.ref))) c (ts1 ++ ts2) (rs1 ++ rs2) := by
  refine ⟨by rw [upd_same, List.map_append], by rw [List.length_append, List.length_append, h1.len, h2.len], fun i t r e1 e2 => ?_⟩
  by_cases hi : i < ts1.length
  · rw [List.getElem?_append_left hi] at e1
    rw [List.getElem?_append_left (by rw [← h1.len]; exact hi)] at e2
    exact same_new hc _ _ (h1.at' i t r e1 e2)
  · rw [List.getElem?_append_right (by omega)] at e1
    rw [List.getElem?_append_right (by rw [← h1.len]; omega), ← h1.len] at e2
    exact same_new hc _ _ (h2.at' _ t r e1 e2)
theorem RdAt.there {H : Hp} {o : Addr} {ts : List Addr} {rs : List (List Int)} (h : RdAt H o ts rs) : ∀ t ∈ ts, ∃ x, H t = some x := fun t m => by
  obtain ⟨i, e⟩ := List.mem_iff_getElem?.mp m
  have hl := at_lt e
  rw [h.len] at hl
  obtain ⟨r, er⟩ := at_some hl
  exact ⟨_, h.at' i t r e er⟩
theorem flat_snoc (rs : List (List Int)) (r : List Int) : (rs ++ [r]).flatten = rs.flatten ++ r := by
  rw [List.flatten_append, List.flatten_cons, List.flatten_nil, List.append_nil]
theorem flat_erase {rs : List (List Int)} {k : Nat} {r : List Int} (e : rs[k]? = some r) : (r ++ (rs.eraseIdx k).flatten).Perm rs.flatten := (erase_perm e).flatten
theorem flat_nils (n : Nat) : (List.replicate n ([] : List Int)).flatten = [] := by
  induction n with
  | zero => rfl
  | succ n ih => rw [List.replicate_succ, List.flatten_cons, ih]; rfl
end El
namespace El
theorem flat_set : ∀ {rs : List (List Int)} {i : Nat} {r : List Int} (a : Int), rs[i]? = some r → (rs.set i (r ++ [a])).flatten.Perm (a :: rs.flatten)
  | [], _, _, _, e => by simp at e
  | s :: rs, 0, r, a, e => by
    obtain rfl : s = r := Option.some.inj e
    show ((s ++ [a]) :: rs).flatten.Perm _
    rw [List.flatten_cons, List.flatten_cons, List.append_assoc]
    exact List.perm_middle
  | s :: rs, i + 1, r, a, e => by
    show (s :: rs.set i (r ++ [a])).flatten.Perm _
    rw [List.flatten_cons, List.flatten_cons]
    exact ((flat_set a (by simpa using e)).append_left s).trans List.perm_middle
/-- the k-th one fuller, as its parts -/
theorem parts_set {α : Type} {rs : List α} {k : Nat} {r x : α} (e : rs[k]? = some r) : rs.take k ++ [x] ++ rs.drop (k + 1) = rs.set k x := by
  have hk := (List.getElem?_eq_some_iff.mp e).1
  rw [List.set_eq_take_append_cons_drop, if_pos hk, List.append_assoc]
  rfl
def fct : Nat → Nat
  | 0 => 1
  | n + 1 => fct n * (n + 1)
theorem fct_le : ∀ {i : Nat}, i ≤ 6 → fct i ≤ 720
  | 0, _ => by decide
  | 1, _ => by decide
  | 2, _ => by decide
  | 3, _ => by decide
  | 4, _ => by decide
  | 5, _ => by decide
  | 6, _ => by decide
  | n + 7, h => absurd h (by omega)
end El
namespace El
theorem flat_pop : ∀ {rs : List (List Int)} {i k : Nat} {r : List Int} {x : Int}, rs[i]? = some r → r[k]? = some x → (x :: (rs.set i (r.eraseIdx k)).flatten).Perm rs.flatten
  | [], _, _, _, _, e, _ => by simp at e
  | s :: rs, 0, k, r, x, e, e2 => by
    obtain rfl : s = r := Option.some.inj e
    show (x :: (s.eraseIdx k :: rs).flatten).Perm _
    rw [List.flatten_cons, List.flatten_cons]
    exact (erase_perm e2).append_right rs.flatten
  | s :: rs, i + 1, k, r, x, e, e2 => by
    show (x :: (s :: rs.set i (r.eraseIdx k)).flatten).Perm _
    rw [List.flatten_cons, List.flatten_cons]
    exact List.perm_middle.symm.trans ((flat_pop (by simpa using e) e2).append_left s)
end El
namespace El
open PySem PySem.Spec PyProof.Rows L2
/-- [f(a, b) for a, b in gs], pairs of ints to ints -/
theorem lc_prs {K : PySem.W.Frag} {B : Addr → Prop} {a D : Addr} {ts : List Addr} {gs : List (Int × Int)} {i j : Nat} {te : TE} {vs : List Nat} {σ : L2.St} {H1 : Hp} {Qd : Hp → Prop} (f : Int × Int → Int) (hG : GsAt H1 B a ts gs) (hD : H1 D = none) (hl : gs.length ≤ 1000)
    (he : ∀ (z : Int × Int) (H' : Hp), z ∈ gs → Same H1 H' → ∀ Q : VK, Q (.int (f z)) H' → te (((wipe σ vs).set i (some (.int z.1))).set j (some (.int z.2))) H' Q) (hw : ∀ z : Int × Int, wipe (((wipe σ vs).set i (some (.int z.1))).set j (some (.int z.2))) vs = wipe σ vs)
    (hd : ∀ H2, Same H1 H2 → H2 D = some (.lst ((gs.map f).map V.int)) → Qd H2) :
    ∃ W : Nat → Nat → Hp → Prop, (∃ m, W 0 m (upd H1 D (.lst []))) ∧ ∀ k m H, W k m H →
      ((Itl K a).stop k H ∧ Qd H) ∨ ((Itl K a).go k H ∧ ∃ Nx : Hp → Prop, (∀ H', Nx H' → ∃ m', m' < m ∧ W (k + 1) m' H') ∧ ∀ x H', (Itl K a).yld k H x H' → gTup K 2 (gCons (gName i) (gCons (gName j) gNil)) x (wipe σ vs) H' fun σ2 H2 => wipe σ2 vs = wipe σ vs ∧ tYes σ2 H2 fun b H3 =>
        if b = true then te σ2 H3 fun y H4 => ∃ acc, H4 D = some (.lst acc) ∧ acc.length < sizeLine ∧ Nx (upd H4 D (.lst (acc ++ [y]))) else Nx H3) := by
  refine lc_it (walk_list (xs := ts.map V.ref)) (fun k H2 => Same H1 H2 ∧ H2 D = some (.lst (((gs.take k).map f).map V.int))) ⟨same_new hD, upd_same⟩ (fun k H2 _ hW => ?_) (fun k x H2 H3 hk hW hY => ?_) (fun H2 hW => ?_)
  · exact (hG.same hW.1).seq
  · obtain ⟨sm, e⟩ := hW
    obtain ⟨rfl, hx⟩ := hY
    obtain ⟨t, z, rfl, ez, et⟩ := (hG.same sm).get hx
    refine ⟨t, _, rfl, SqT.of et, rfl, .int z.1, _, rfl, .int z.2, _, rfl, rfl, ?_⟩
    refine ⟨hw z, he z H3 (List.mem_of_getElem? ez) sm _ ⟨_, e, ils (by rw [List.length_map, List.length_map, List.length_take]; omega), Same.mut sm hD, ?_⟩⟩
    rw [upd_same, take_snoc ez, List.map_append, List.map_append]
    rfl
  · obtain ⟨sm, e⟩ := hW
    rw [List.length_map, hG.len, take_full] at e
    exact hd H2 sm e
theorem GsAt.top' {H : Hp} {B : Addr → Prop} {a : Addr} {ts : List Addr} {gs : List (Int × Int)} (h : GsAt H B a ts gs) {b : Addr} (e : H b = some (.lst (ts.map V.ref))) : GsAt H (fun _ => True) b ts gs := ⟨e, trivial, h.len, h.at', fun _ _ => trivial⟩
/-- a pair of a list of pairs, by its place -/
theorem GsAt.at_ {H : Hp} {B : Addr → Prop} {a : Addr} {ts : List Addr} {gs : List (Int × Int)} (h : GsAt H B a ts gs) {i : Nat} {g : Int × Int} (e : gs[i]? = some g) : ∃ t, (ts.map V.ref)[i]? = some (.ref t) ∧ H t = some (.tup [.int g.1, .int g.2]) := by
  have hl := at_lt e
  rw [← h.len] at hl
  obtain ⟨t, e2⟩ := at_some hl
  exact ⟨t, by rw [List.getElem?_map, e2]; rfl, h.at' i t g e2 e⟩
theorem pick2 {P : Int → Prop} {a b r : Int} (h0 : 0 ≤ r) (h1 : r < 2) (pa : P a) (pb : P b) : ∃ v : Int, atI [V.int a, .int b] r = some (.int v) ∧ P v := by
  obtain ⟨v, hv, mv⟩ := at_pick (xs := [V.int a, .int b]) h0 h1
  rcases List.mem_cons.mp mv with rfl | mv
  · exact ⟨_, hv, pa⟩
  · obtain rfl := List.mem_singleton.mp mv
    exact ⟨_, hv, pb⟩
theorem pick3 {P : Int → Prop} {a b c r : Int} (h0 : 0 ≤ r) (h1 : r < 3) (pa : P a) (pb : P b) (pc : P c) : ∃ v : Int, atI [V.int a, .int b, .int c] r = some (.int v) ∧ P v := by
  obtain ⟨v, hv, mv⟩ := at_pick (xs := [V.int a, .int b, .int c]) h0 h1
  rcases List.mem_cons.mp mv with rfl | mv
  · exact ⟨_, hv, pa⟩
  rcases List.mem_cons.mp mv with rfl | mv
  · exact ⟨_, hv, pb⟩
  · obtain rfl := List.mem_singleton.mp mv
    exact ⟨_, hv, pc⟩
theorem pick4 {P : Int → Prop} {a b c d r : Int} (h0 : 0 ≤ r) (h1 : r < 4) (pa : P a) (pb : P b) (pc : P c) (pd : P d) : ∃ v : Int, atI [V.int a, .int b, .int c, .int d] r = some (.int v) ∧ P v := by
  obtain ⟨v, hv, mv⟩ := at_pick (xs := [V.int a, .int b, .int c, .int d]) h0 h1
  rcases List.mem_cons.mp mv with rfl | mv
  · exact ⟨_, hv, pa⟩
  rcases List.mem_cons.mp mv with rfl | mv
  · exact ⟨_, hv, pb⟩
  rcases List.mem_cons.mp mv with rfl | mv
  · exact ⟨_, hv, pc⟩
  · obtain rfl := List.mem_singleton.mp mv
    exact ⟨_, hv, pd⟩
theorem pickL {P : Int → Prop} {L : List Int} {r : Int} (h0 : 0 ≤ r) (h1 : r < L.length) (p : ∀ x ∈ L, P x) : ∃ v : Int, atI (L.map V.int) r = some (.int v) ∧ P v := by
  obtain ⟨v, hv, mv⟩ := at_pick (xs := L.map V.int) h0 (by rw [List.length_map]; exact h1)
  obtain ⟨x, mx, rfl⟩ := List.mem_map.mp mv
  exact ⟨x, hv, p x mx⟩
/-- pairs that stand at these, whatever list tells them -/
structure Prs (H : Hp) (ts : List Addr) (gs : List (Int × Int)) : Prop where
  len : ts.length = gs.length
  at' : ∀ (i : Nat) (t : Addr) (g : Int × Int), ts[i]? = some t → gs[i]? = some g → H t = some (.tup [.int g.1, .int g.2])
theorem GsAt.pr {H : Hp} {B : Addr → Prop} {a : Addr} {ts : List Addr} {gs : List (Int × Int)} (h : GsAt H B a ts gs) : Prs H ts gs := ⟨h.len, h.at'⟩
theorem Prs.gs {H : Hp} {a : Addr} {ts : List Addr} {gs : List (Int × Int)} (h : Prs H ts gs) (e : H a = some (.lst (ts.map V.ref))) : GsAt H (fun _ => True) a ts gs := ⟨e, trivial, h.len, h.at', fun _ _ => trivial⟩
theorem Prs.same {H H' : Hp} {ts : List Addr} {gs : List (Int × Int)} (h : Prs H ts gs) (k : Same H H') : Prs H' ts gs := ⟨h.len, fun i t g e f => k _ _ (h.at' i t g e f)⟩
theorem Prs.nil {H : Hp} : Prs H [] [] := ⟨rfl, fun i t g e _ => by simp at e⟩
theorem Prs.cons {H : Hp} {t : Addr} {g : Int × Int} {ts : List Addr} {gs : List (Int × Int)} (e : H t = some (.tup [.int g.1, .int g.2])) (h : Prs H ts gs) : Prs H (t :: ts) (g :: gs) := by
  refine ⟨by rw [List.length_cons, List.length_cons, h.len], fun i u x e1 e2 => ?_⟩
  cases i with
  | zero =>
    obtain rfl : t = u := Option.some.inj e1
    obtain rfl : g = x := Option.some.inj e2
    exact e
  | succ i => exact h.at' i u x (by simpa using e1) (by simpa using e2)
theorem Prs.cat {H : Hp} {ts us : List Addr} {gs hs : List (Int × Int)} (h : Prs H ts gs) (k : Prs H us hs) : Prs H (ts ++ us) (gs ++ hs) := by
  refine ⟨by rw [List.length_append, List.length_append, h.len, k.len], fun i t r e1 e2 => ?_⟩
  by_cases hi : i < ts.length
  · rw [List.getElem?_append_left hi] at e1
    rw [List.getElem?_append_left (by rw [← h.len]; exact hi)] at e2
    exact h.at' i t r e1 e2
  · rw [List.getElem?_append_right (by omega)] at e1
    rw [List.getElem?_append_right (by rw [← h.len]; omega), ← h.len] at e2
    exact k.at' _ t r e1 e2
theorem Prs.take {H : Hp} {ts : List Addr} {gs : List (Int × Int)} (h : Prs H ts gs) (n : Nat) : Prs H (ts.take n) (gs.take n) := by
  refine ⟨by rw [List.length_take, List.length_take, h.len], fun i t r e1 e2 => ?_⟩
  rw [List.getElem?_take] at e1 e2
  split at e1
  · rename_i hi
    rw [if_pos hi] at e2
    exact h.at' i t r e1 e2
  · cases e1
theorem Prs.drop {H : Hp} {ts : List Addr} {gs : List (Int × Int)} (h : Prs H ts gs) (n : Nat) : Prs H (ts.drop n) (gs.drop n) := by
  refine ⟨by rw [List.length_drop, List.length_drop, h.len], fun i t r e1 e2 => ?_⟩
  rw [List.getElem?_drop] at e1 e2
  exact h.at' _ t r e1 e2
theorem cutFrom (xs : List V) (j : Nat) : cutV xs (some (j : Int)) none = xs.drop j := by
  unfold cutV
  rw [HT.sIx_none, HT.sIx_nat]
  show (List.drop (min j xs.length) xs).take (xs.length - min j xs.length) = _
  by_cases h : j ≤ xs.length
  · rw [Nat.min_eq_left h, List.take_of_length_le (by rw [List.length_drop]; omega)]
  · rw [Nat.min_eq_right (by omega), List.drop_of_length_le (Nat.le_refl _), List.drop_of_length_le (show xs.length ≤ j by omega), List.take_nil]
theorem iteX {c : Bool} {A B : Prop} (hc : c = false) (h : B) : if c = true then A else B := by
  rw [hc]
  exact iteF h
theorem nd_self (x : V) : (!decide (x = x)) = false := by rw [decide_eq_true rfl]; rfl
theorem log2_lt {x : Int} {k : Nat} (h0 : 0 ≤ x) (h1 : x < 2 ^ k) (hk : 0 < k) : x.natAbs.log2 < k := by
  by_cases h4 : x.natAbs = 0
  · rw [h4]; exact Nat.lt_of_le_of_lt (by decide) hk
  · refine (Nat.log2_lt h4).mpr ?_
    have : ((x.natAbs : Nat) : Int) < ((2 ^ k : Nat) : Int) := by
      rw [show ((x.natAbs : Nat) : Int) = x by omega]
      exact_mod_cast h1
    exact_mod_cast this
theorem part_at {gs : List (Int × Int)} {i : Nat} {g : Int × Int} (e : gs[i]? = some g) : gs = gs.take i ++ [g] ++ gs.drop (i + 1) := by
  have hi := at_lt e
  have h2 := List.getElem_cons_drop (as := gs) (i := i) hi
  rw [List.getElem?_eq_getElem hi] at e
  rw [Option.some.inj e] at h2
  rw [List.append_assoc]
  show gs = gs.take i ++ (g :: gs.drop (i + 1))
  rw [h2, List.take_append_drop]
theorem rg0 {i : Nat} {x : V} (h : x = V.int (0 + (i : Int))) : x = V.int (i : Int) := by
  rw [h, Int.zero_add]
end El
namespace El
open PySem PySem.Spec PyProof.Rows L2
/-! ### the program's own errors: InnError over ValueError, and those over InnError, each with what -/
/-- a def that may raise, as callers see it -/
structure DfX (P : Program) (w : World) (K : PySem.W.Frag) (mg : Str → Option Value) (base : Heap) (k : Nat) (x : Str) (ps : List Str) (st : Stmt) (sp : Sp) : Prop where
  ex : ∃ (f : Addr) (fd : FuncData), Fun K x x st f fd ∧ mg x = some (.ref f) ∧ FnOk P w K mg base (L2.CX P w) k f fd ps sp ∧ Binds K fd ps []
theorem At.dfx {P : Program} {w : World} {K : PySem.W.Frag} {mg : Str → Option Value} {base : Heap} {k : Nat} {x : Str} {ps : List Str} {st : Stmt} {sp : Sp} (A : At K mg x ps st)
    (h : ∀ f fd, Fun K x x st f fd → FnOk P w K mg base (L2.CX P w) k f fd ps sp) : DfX P w K mg base k x ps st sp := by
  obtain ⟨f, fd, F, m, b⟩ := A.ex
  exact ⟨f, fd, F, m, h f fd F, b⟩
section
variable {X : Cx} {k : Nat} {x : Str} {ps : List Str} {st : Stmt} {sp : Sp} {p pos : Pos} {e : Expr} {es : List Expr} {kws : List Keyword} {t tk : TA} {W : WX}
/-- f(..) of such a def, what it raises as W tells -/
theorem pe_dfS (D : DfX X.prog X.w X.K X.mg X.base k x ps st sp) (tk : Takes X W) (hr : Room k X.A) (hg : Gl X x) (ha : PA X (e :: es) t) (hdb : (x == ("__debug__" : Str)) = false := by decide)
    (he : starEach (e :: es) X.env = (false, eval e X.env) :: starEach es X.env := by rfl) (hpl : (backTo pos (starEach es X.env)).any (·.1) = false := by rfl) : PE X (.Call (.Name x p) (e :: es) [] pos) (tCallS sp (WE W) t) := by
  obtain ⟨f, fd, F, m, G, b⟩ := D.ex
  exact pe_callS G hr hg m F.kp b (fun σ => passAt tk σ) ha hdb he hpl
/-- f(..) of such a def where nothing is raised -/
theorem pe_dfN (D : DfX X.prog X.w X.K X.mg X.base k x ps st sp) (hr : Room k X.A) (hg : Gl X x) (ha : PA X (e :: es) t) (hdb : (x == ("__debug__" : Str)) = false := by decide)
    (he : starEach (e :: es) X.env = (false, eval e X.env) :: starEach es X.env := by rfl) (hpl : (backTo pos (starEach es X.env)).any (·.1) = false := by rfl) : PE X (.Call (.Name x p) (e :: es) [] pos) (tCall sp [] E0 t) := by
  obtain ⟨f, fd, F, m, G, b⟩ := D.ex
  refine pe_call G hr hg m F.kp b .nil (fun pins σ H s v s' I c => ?_) ha hdb he hpl
  obtain ⟨_, _, _, _, _, _, _, _, _, _, _, _, z⟩ := c
  exact z.elim
def tCallWS (n : Nat) (sp : Sp) (W : WX) (g : List V → List V) (tk : TA) : TE := fun σ H Q => tk σ H fun zs H2 => zs.length = n ∧ sp (g zs) H2 Q (fun cls d H => W cls d σ H)
end
/-! ### InnError.__init__(self, ..) -/
structure InnC (K : PySem.W.Frag) (mg : Str → Option Value) (C0 : Addr) : Prop where
  g : mg "InnError" = some (.ref C0)
  rd : PySem.W.readsIn K C0 (.type "type") = true
  ga : PySem.W.specialIn K (.ref C0) "__getattribute__" = some (some (.builtin "type.__getattribute__"))
  i : PySem.W.findCls K (.ref C0) (.type "type") "__init__" = some (.val (.builtin "ValueError.__init__"))
section
variable {X : Cx} {C0 : Addr} {e : Expr} {es : List Expr} {ta : TA} {p1 p2 pos : Pos}
theorem pe_ownI {pl : Sem Bool} (T : InnC X.K X.mg C0) (ha : PA X (e :: es) ta) (hg : Gl X "InnError" := by rfl)
    (hev : eval (.Call (.Attribute (.Name "InnError" p1) "__init__" p2) (e :: es) [] pos) X.env = (do
      let v0 ← eval (.Name "InnError" p1) X.env
      standAt p2.atName
      let (fn, one) ← holding [v0] (getMethod v0 "__init__" pl)
      callWith pos fn one (backTo pos (starEach (e :: es) X.env)) (backToKw pos (keywordEach [] X.env))) := by rfl)
    (hse : starEach (e :: es) X.env = (false, eval e X.env) :: starEach es X.env := by rfl) (hpl : (backTo pos (starEach es X.env)).any (·.1) = false := by rfl) :
    PE X (.Call (.Attribute (.Name "InnError" p1) "__init__" p2) (e :: es) [] pos) (tVeI X.K ta) := by
  refine ⟨fun pins s σ H Q I h => PySem.W.methodCall_KW (ld_glob I hg T.g ?_) hev⟩
  refine PySem.W.method_cls I.kIn T.ga (PySem.W.cls_value I.kIn T.rd T.i rfl ?_)
  show wpAny _ _ (callWith pos (Value.builtin "ValueError.__init__") [] (backTo pos (starEach (e :: es) X.env)) []) _ _ { s with toks := s.toks + 1 }
  refine PyProof.Rows.callWith_method1 (thn (ha.run pos pins _ σ H _ (I.tok _) h) fun us s1 hh => ?_) hse hpl
  obtain ⟨vs, H1, I1, r1, a, C, ws, rfl, hl, T1, ea, q⟩ := hh
  cases r1 with
  | @cons _ u0 _ ur ra rw' =>
    cases ra
    have hz : ur.length ≤ sizeLine := by
      rw [← Paired.length rw']
      exact ile (Nat.le_trans hl (by decide))
    exact oinit_ok T1 I1 ea hz fun s' J => ⟨.non, H1, J, rfl, q⟩
end
/-! ### what the top says of such a class, x its name -/
structure Own (K : PySem.W.Frag) (mg : Str → Option Value) (x : Str) (C fI : Addr) : Prop where
  g : mg x = some (.ref C)
  o : OexC K C
  xf : XfC K C
  no : PySem.W.findIn K (.ref C) "what" = some none
  iC : PySem.W.findIn K (.ref C) "__init__" = some (some (.ref fI))
  tI : PySem.W.typeIn K (.ref fI) = some (.type "function")
  cl : (PySem.W.clsIn K C).isSome = true
  ac : PySem.W.findIn K (.ref C) "__class__" = some (some (.builtin "object.__class__"))
  mo : PySem.W.mroIn K C (.type "object") = some true
/-- what isinstance leans on -/
structure IsX (K : PySem.W.Frag) : Prop where
  hn : PySem.W.specialIn K (.builtin "object.__class__") "__get__" = some (some (.builtin "getset_descriptor.__get__"))
  ht : PySem.W.takesIn K (.builtin "object.__class__") = some true
/-- isinstance(e, c), e the exception that the suite holds, with its dict at d -/
def rIsD (K : PySem.W.Frag) (D a : Addr) : List V → Hp → VK → Prop := fun xs H Q => ∃ (c : V) (cv : Value) (b : Bool), xs = [.ref a, c] ∧ (∀ u, RelV c u → u = cv) ∧ PySem.W.kitOne K (.ref D) cv = some b ∧ Q (.bl b) H
/-- isinstance(e, (c1, ..)) -/
def rIsT (K : PySem.W.Frag) (D a : Addr) : List V → Hp → VK → Prop := fun xs H Q => ∃ (t : Addr) (cs : List V) (cvs : List Value) (b : Bool), xs = [.ref a, .ref t] ∧ SqT K H t cs ∧ (∀ us, Vals cs us → us = cvs) ∧ PySem.W.kitAny K (.ref D) cvs = some b ∧ Q (.bl b) H
section
variable {X : Cx} {a D : Addr} {d : Option Addr} {oe : Obj} {pn : List (Addr × Obj)} {fI : Addr} {x : Str}
theorem own_inst {pins : List (Addr × Obj)} {σ : L2.St} {H : Hp} {s : Shared} {dd : Addr} {fs : List (Str × V)} (hz : Zc (.ref D) (some dd) oe) (hf : ∃ vs, oe.data = .fields vs) (I : Inv (X.suite a ((a, oe) :: pn)) pins σ H s) (ed : H dd = some (.xd fs)) :
    ∃ od, PySem.W.InstAt s.heap a oe D (some od) := by
  obtain ⟨ha, _⟩ := I.pin (a, oe) (List.mem_append_left _ List.mem_cons_self)
  obtain ⟨vs, hd⟩ := hf
  obtain ⟨mA, hns, _⟩ := (show ObjOk X.prog X.w H s.heap dd (.xd fs) from I.hok dd _ ed)
  obtain ⟨od, ho, _⟩ := lookIn_ns hns
  exact ⟨od, ha, hz.1, by unfold PySem.W.notCls; rw [hd] <;> rfl, by rw [hz.2]; exact ho⟩
theorem own_kit {K : PySem.W.Frag} {mg : Str → Option Value} {od : Option Obj} (T : Own K mg x D fI) (J : IsX K) : PySem.W.KitX K (.ref a) (.ref D) (fun h => PySem.W.InstAt h a oe D od) :=
  PySem.W.kitx_exc T.cl T.xf.ga T.xf.gg T.xf.exC T.ac J.hn J.ht T.mo
theorem call_isD {dd : Addr} (T : Own X.K X.mg x D fI) (J : IsX X.K) (hz : Zc (.ref D) (some dd) oe) (hf : ∃ vs, oe.data = .fields vs) :
    CallR (X.suite a ((a, oe) :: pn)) (.builtin "isinstance") (fun xs H Q => (∃ fs, H dd = some (.xd fs)) ∧ (rIsD X.K D a xs H Q ∨ rIsT X.K D a xs H Q)) := by
  intro pins s σ H xs us Q I r h
  obtain ⟨⟨fs, ed⟩, h⟩ := h
  obtain ⟨od, hI⟩ := own_inst hz hf I ed
  rcases h with ⟨c, cv, b, rfl, hcv, e, q⟩ | ⟨t, cs, cvs, b, rfl, hs, hcs, e, q⟩
  · cases r with
    | cons rx rr =>
      cases rr with
      | cons rt rr =>
        cases rr
        cases rx
        obtain rfl := hcv _ rt
        exact PySem.W.kia_one (own_kit T J) I.kIn hI e (fun z => nomatch z) fun tk => ⟨.bl b, H, I.kept (t' := tk) fun _ _ z => z, rfl, q⟩
  · cases r with
    | cons rx rr =>
      cases rr with
      | cons rt rr =>
        cases rr
        cases rx
        cases rt
        obtain ⟨its, rv, ⟨o, ho, hc, n, hd⟩, _⟩ := I.tuple hs
        obtain rfl := hcs _ rv
        obtain ⟨oc, od', oda, osl⟩ := o
        dsimp only at hc hd
        subst hc hd
        exact PySem.W.kia_tup (own_kit T J) I.kIn hI ho e (fun z => nomatch z) fun tk => ⟨.bl b, H, I.kept (t' := tk) fun _ _ z => z, rfl, q⟩
end
/-- the heap behind C(v): all as it was, the dict alone beside -/
theorem mk_heap {H : Hp} {a d : Addr} {x z : HO} {y u : HO} (ha : H a = none) (hd : d ≠ a) : upd (del (upd (upd (upd H a x) d y) a z) a) d u = upd H d u := by
  funext b
  by_cases h1 : b = d
  · rw [h1, upd_same, upd_same]
  · rw [upd_ne h1, upd_ne h1]
    by_cases h2 : b = a
    · rw [h2, del_same, ha]
    · rw [del_ne h2, upd_ne h2, upd_ne h1, upd_ne h2]
/-- an except clause's class -/
theorem te_of {K : PySem.W.Frag} {C0 C : Addr} (h1 : PySem.W.subIn K (.ref C0) (.type "BaseException") = some true) (hd : PySem.W.hasDictIn K C0 = true) (ht : PySem.W.typeIn K (.ref C0) = some (.type "type")) (h4 : PySem.W.subIn K (.ref C) (.ref C0) = some true) : PySem.W.exmOne K (.ref C) (.ref C0) = some true := PySem.W.exm_ref h1 hd ht h4
/-! ### in a suite: the exception's class known at the reading alone -/
def rIsAny (K : PySem.W.Frag) (mg : Str → Option Value) (a : Addr) (cls : Value) (d : Option Addr) : List V → Hp → VK → Prop := fun xs H Q => ∃ (x : Str) (D fI dd : Addr), cls = .ref D ∧ d = some dd ∧ Own K mg x D fI ∧ IsX K ∧ (∃ fs, H dd = some (.xd fs)) ∧ (rIsD K D a xs H Q ∨ rIsT K D a xs H Q)
def tXfAny (K : PySem.W.Frag) (a : Addr) (cls : Value) (d : Option Addr) (f : Str) (te : TE) : TE := fun σ H Q => ∃ C, XfC K C ∧ PySem.W.findIn K (.ref C) f = some none ∧ tXf a cls d C f te σ H Q
section
variable {X : Cx} {a : Addr} {cls : Value} {d : Option Addr} {oe : Obj} {pn : List (Addr × Obj)}
theorem isAnyK (K : PySem.W.Frag) (mg : Str → Option Value) (hz : Zc cls d oe) (hf : ∃ vs, oe.data = .fields vs) (e : X.K = K := by rfl) (e2 : X.mg = mg := by rfl) : CallR (X.suite a ((a, oe) :: pn)) (.builtin "isinstance") (rIsAny K mg a cls d) := by
  subst e
  subst e2
  intro pins s σ H xs us Q I r h
  obtain ⟨x, D, fI, dd, rfl, rfl, T, J, h1, h2⟩ := h
  exact call_isD T J hz hf pins s σ H xs us Q I r ⟨h1, h2⟩
theorem pe_xfA {e : Expr} {te : TE} {pos : Pos} {n : Str} (K : PySem.W.Frag) (hz : Zc cls d oe) (hf : ∃ vs, oe.data = .fields vs) (he : PE (X.suite a ((a, oe) :: pn)) e te) (eK : X.K = K := by rfl) (hb : attributeBase e n X.env (eval e X.env) = eval e X.env := by rfl) :
    PE (X.suite a ((a, oe) :: pn)) (.Attribute e n pos) (tXfAny K a cls d n te) := by
  subst eK
  refine ⟨fun pins s σ H Q I h => ?_⟩
  obtain ⟨C, T, hno, h⟩ := h
  exact (pe_xf (C := C) T hno hz hf he hb).run pins s σ H Q I h
end
/-- xs.count(y), xs of flat things -/
def rCountF (K : PySem.W.Frag) : V → List V → Hp → VK → Prop := fun x xs H Q => ∃ (a : Addr) (ys : List V) (y : V), x = .ref a ∧ xs = [y] ∧ SqL K H a ys ∧ flatV y = true ∧ ys.all flatV = true ∧ Q (.int ((ys.countP fun z => eqV z y : Nat) : Int)) H
theorem countU {y : V} : ∀ {ys : List V} {its : List Value}, Vals ys its → ys.all flatV = true → its.countP (eqU y) = ys.countP fun z => eqV z y
  | _, _, .nil, _ => rfl
  | _, _, .cons (a := z) (b := u) (l₁ := zs) r t, h => by
    have h' : (flatV z && zs.all flatV) = true := h
    obtain ⟨h1, h2⟩ := Bool.and_eq_true_iff.mp h'
    rw [List.countP_cons, List.countP_cons, countU t h2, eqU_of r h1]
section
variable {X : Cx}
theorem mtCountK (K : PySem.W.Frag) (e : X.K = K := by rfl) : MtR X "list.count" (rCountF K) := by
  subst e
  intro pins s σ H x xs v us Q I rx rxs h
  obtain ⟨a, ys, y, rfl, rfl, hs, fy, fys, q⟩ := h
  cases rx
  obtain ⟨u, rfl, ru⟩ := rxs.one
  obtain ⟨its, rv, ⟨⟨cl, dd, da, sl⟩, n, ho, hc, hdn, hd⟩, hlen⟩ := I.list hs
  dsimp only at hc hd
  subst hc hd
  refine call_meets PySem.F.slot_list_count ⟨_, ho, rfl⟩ PySem.F.entry_list_count (PySem.F.args_list_count_2 _ _) (SeqAt.list_countAt a its.toArray n dd sl u (eqU y)) ⟨ho, fun u' hu' => mem_eqAt ru fy rv fys u' (by simpa using hu'), ?_⟩
  have ec : its.toArray.toList.countP (eqU y) = ys.countP fun z => eqV z y := countU rv fys
  refine ⟨.int ((ys.countP fun z => eqV z y : Nat) : Int), H, I.tok _, ⟨s.toks, ?_⟩, q⟩
  rw [← ec]
theorem mtIndexK (K : PySem.W.Frag) (e : X.K = K := by rfl) : MtR X "list.index" (rIndex K) := by
  subst e
  exact mt_index
end
/-! ### the errors' own __init__ -/
/-- what repr takes here -/
def Rdb (v : V) : Prop := (∃ i : Int, v = .int i ∧ i.natAbs < 10 ^ 200) ∨ ∃ y : Str, v = .str y ∧ (reprText y).length ≤ 100000
theorem text_len {i : Int} (h : i.natAbs < 10 ^ 200) : (Str.ofString (toString i)).length ≤ 201 := by
  by_cases h0 : 0 ≤ i
  · exact Nat.le_succ_of_le (PyProof.Rows.toString_length_le h0 (by decide) (by
      have : ((i.natAbs : Nat) : Int) < ((10 ^ 200 : Nat) : Int) := by exact_mod_cast h
      rw [show ((i.natAbs : Nat) : Int) = i by omega] at this
      exact_mod_cast this))
  · have e := PyProof.Rows.len_text_negI (n := i) (by omega)
    have h2 := PyProof.Rows.toString_length_le (v := 0 - i) (k := 200) (by omega) (by decide) (by
      have : ((i.natAbs : Nat) : Int) < ((10 ^ 200 : Nat) : Int) := by exact_mod_cast h
      rw [show ((i.natAbs : Nat) : Int) = 0 - i by omega] at this
      exact_mod_cast this)
    omega
def sp_init (K : PySem.W.Frag) : Sp := fun vs H Q _ => ∃ (a C : Addr) (v : V), vs = [.ref a, v] ∧ OexC K C ∧ PySem.W.findIn K (.ref C) "what" = some none ∧ H a = some (exo a C none) ∧ Rdb v ∧
  ∀ d, H d = none → d ≠ a → Q .non (upd (upd H d (exd d [(("what" : Str), v)])) a (exo a C (some d)))
/-- such a class with its __init__ -/
structure OwnD (P : Program) (w : World) (K : PySem.W.Frag) (mg : Str → Option Value) (base : Heap) (x : Str) (C : Addr) : Prop where
  ex : ∃ (fI : Addr) (fd : FuncData), Own K mg x C fI ∧ FnOk P w K mg base CX0 1 fI fd ["self", "what"] (sp_init K) ∧ Binds K fd ["self", "what"] []
theorem OwnD.own {P : Program} {w : World} {K : PySem.W.Frag} {mg : Str → Option Value} {base : Heap} {x : Str} {C : Addr} (O : OwnD P w K mg base x C) : ∃ fI, Own K mg x C fI := by
  obtain ⟨fI, _, T, _⟩ := O.ex
  exact ⟨fI, T⟩
theorem OwnD.g {P : Program} {w : World} {K : PySem.W.Frag} {mg : Str → Option Value} {base : Heap} {x : Str} {C : Addr} (O : OwnD P w K mg base x C) : mg x = some (.ref C) := by
  obtain ⟨fI, T⟩ := O.own
  exact T.g
section
variable {X : Cx} {C : Addr} {x : Str} {e : Expr} {es : List Expr} {ta : TA} {W : WX} {p pos pos2 : Pos}
theorem pa_on {σ : L2.St} {H : Hp} {R : List V → Hp → Prop} (ha : PA X es ta) (h : ta σ H R) : PA X es (fun σ' H' Q' => σ' = σ ∧ H' = H ∧ ∀ vs H1, R vs H1 → Q' vs H1) := by
  refine ⟨fun pos pins s σ' H' Q' I h2 => ?_⟩
  obtain ⟨rfl, rfl, h2⟩ := h2
  exact thn (ha.run pos pins s σ' H' R I h) fun us s1 ⟨vs, H1, I1, r1, q⟩ => ⟨vs, H1, I1, r1, h2 vs H1 q⟩
/-- raise C(e) -/
def tRaiseOwn (C : Addr) (W : WX) (ta : TA) : TS := fun _ σ H => ta σ H fun vs H1 => ∃ v, vs = [v] ∧ Rdb v ∧ ∀ d, H1 d = none → W (.ref C) (some d) σ (upd H1 d (.xd [(("what" : Str), v)]))
theorem ps_raiseOwn (O : OwnD X.prog X.w X.K X.mg X.base x C) (hr : Room 2 X.A) (hc : X.calm = true) (tk : Takes X W) (ha : PA X [e] ta) (hg : Gl X x) (hdb : (x == ("__debug__" : Str)) = false := by decide)
    (he : starEach [e] X.env = (false, eval e X.env) :: starEach [] X.env := by rfl) (hpl : (backTo pos (starEach [] X.env)).any (·.1) = false := by rfl) :
    PS X (.Raise (some (.Call (.Name x p) [e] [] pos)) none pos2) (tRaiseOwn C W ta) := by
  obtain ⟨fI, fd, T, F, b⟩ := O.ex
  refine ⟨fun pins s σ H D I h => ?_⟩
  refine (ps_raise hc tk (pmk_oex T.o T.iC T.tI F hr b .nil pass0 hg T.g (pa_on ha h) hdb he hpl)).run pins s σ H D I ⟨rfl, rfl, fun vs H1 ⟨v, ev, rv, q⟩ => ?_⟩
  subst ev
  refine ⟨by show 1 ≤ 1000; decide, fun a na => ⟨a, C, v, rfl, T.o, T.no, upd_same, rv, fun d nd da => ⟨rfl, d, _, upd_same, by rw [upd_ne da, upd_same], ?_, ?_⟩⟩⟩
  · rw [upd_ne da] at nd
    exact nd
  · rw [mk_heap na da]
    exact q d (by rw [upd_ne da] at nd; exact nd)
end
theorem valsRefs : ∀ {l : List Addr} {us : List Value}, Vals (l.map V.ref) us → us = l.map Value.ref
  | [], _, .nil => rfl
  | a :: l, _, .cons r t => by
    obtain rfl : _ = Value.ref a := r
    rw [List.map_cons, valsRefs t]
theorem relRef (a : Addr) : RelV (.ref a) (.ref a) := rfl
theorem bootVE : bootBuiltins "ValueError" = some (.type "ValueError") := by decide +kernel
theorem own_mro (C0 : Addr) : PySem.HandSPX.refsVE [.ref C0, .type "ValueError", .type "Exception", .type "BaseException", .type "object"] = true := by
  show PySem.HandSPX.refsVE [.type "ValueError", .type "Exception", .type "BaseException", .type "object"] = true
  decide +kernel
theorem kit_self {K : PySem.W.Frag} (C : Addr) : PySem.W.kitOne K (.ref C) (.ref C) = some true := by
  unfold PySem.W.kitOne
  rw [if_pos (beq_self_eq_true _)]
theorem kit_no {K : PySem.W.Frag} {C D : Addr} (h : PySem.W.subIn K (.ref C) (.ref D) = some false) (hc : PySem.W.isClsIn K D = true) (ht : PySem.W.typeIn K (.ref D) = some (.type "type")) (ne : C ≠ D) : PySem.W.kitOne K (.ref C) (.ref D) = some false := by
  unfold PySem.W.kitOne
  rw [if_neg (fun z => ne (Value.ref.inj (eq_of_beq z)))]
  have h1 : (PySem.W.clsIn K D).isSome = true := hc
  show (if ((PySem.W.clsIn K D).isSome && PySem.W.typeIn K (.ref D) == some (.type "type")) = true then PySem.W.subIn K (.ref C) (.ref D) else none) = _
  rw [if_pos (by rw [h1, ht]; rfl)]
  exact h
theorem kit_ve {K : PySem.W.Frag} {C : Addr} (h : PySem.W.subIn K (.ref C) (.type "ValueError") = some true) : PySem.W.kitOne K (.ref C) (.type "ValueError") = some true := by
  unfold PySem.W.kitOne
  have hne : ¬ (Value.ref C == Value.type "ValueError") = true := fun z => nomatch (eq_of_beq z)
  rw [if_neg hne]
  show (if PySem.W.kitMeta "ValueError" = true then PySem.W.subIn K (.ref C) (.type "ValueError") else none) = _
  rw [if_pos (by decide +kernel)]
  exact h
theorem kit_none {K : PySem.W.Frag} {t : Value} : ∀ {l : List Value}, (∀ c ∈ l, PySem.W.kitOne K t c = some false) → PySem.W.kitAny K t l = some false
  | [], _ => rfl
  | c :: l, h => by
    unfold PySem.W.kitAny
    rw [h c List.mem_cons_self]
    exact kit_none fun d m => h d (List.mem_cons_of_mem _ m)
end El
namespace El
open PySem PySem.Spec PyProof.Rows L2
/-! ### a def that refuses some things and answers others: both promises put together -/
theorem Df.orx {P : Program} {w : World} {K : PySem.W.Frag} {mg : Str → Option Value} {base : Heap} {j k : Nat} {x : Str} {ps : List Str} {st : Stmt} {sp1 sp2 : Sp} (G : Df P w K mg base j x ps st sp1) (B : DfX P w K mg base k x ps st sp2) (h : j ≤ k) :
    DfX P w K mg base k x ps st (fun vs H Q E => sp1 vs H Q E0 ∨ sp2 vs H Q E) := by
  obtain ⟨f, fd, F, m, G1, b⟩ := G.ex
  obtain ⟨f', fd', F', m', B1, _⟩ := B.ex
  obtain rfl : f = f' := Value.ref.inj (Option.some.inj (m.symm.trans m'))
  have efd : fd = fd' := by
    obtain ⟨_, _, _, _, _, _, _, _, _, rfl, l1, _⟩ := F.ex
    obtain ⟨_, _, _, _, _, _, _, _, _, rfl, l2, _⟩ := F'.ex
    exact Data.func.inj (Obj.mk.inj (Option.some.inj (l1.symm.trans l2))).2.2.1
  subst efd
  refine ⟨f, fd, F, m, ⟨fun vs H Q E hs => hs.elim (G1.len vs H Q E0) (B1.len vs H Q E), fun A outer s H args us vs Q E room ent bound vals want => ?_⟩, b⟩
  rcases want with want | want
  · refine codeAny_mono (G1.run A outer s H args us vs Q E0 (room.mono h) ent bound vals want) fun r s2 told => ?_
    match r, told with
    | .ok (.ret _), told => exact told
    | .error _, told => exact told.elim
  · exact B1.run A outer s H args us vs Q E room ent bound vals want
theorem Df.up {P : Program} {w : World} {K : PySem.W.Frag} {mg : Str → Option Value} {base : Heap} {j k : Nat} {x : Str} {ps : List Str} {st : Stmt} {sp : Sp} (G : Df P w K mg base j x ps st sp) (h : j ≤ k) : Df P w K mg base k x ps st sp := by
  obtain ⟨f, fd, F, m, G1, b⟩ := G.ex
  exact ⟨f, fd, F, m, G1.mono h, b⟩
theorem DfX.up {P : Program} {w : World} {K : PySem.W.Frag} {mg : Str → Option Value} {base : Heap} {j k : Nat} {x : Str} {ps : List Str} {st : Stmt} {sp : Sp} (G : DfX P w K mg base j x ps st sp) (h : j ≤ k) : DfX P w K mg base k x ps st sp := by
  obtain ⟨f, fd, F, m, G1, b⟩ := G.ex
  exact ⟨f, fd, F, m, G1.mono h, b⟩
/-! ### errors whose value is a number, a text, None or a pair of numbers -/
def RdW (H : Hp) (v : V) : Prop := Rdb v ∨ v = .non ∨ ∃ (t : Addr) (i j : Int), v = .ref t ∧ H t = some (.tup [.int i, .int j]) ∧ i.natAbs < 10 ^ 200 ∧ j.natAbs < 10 ^ 200
theorem RdW.same {H H' : Hp} {v : V} (h : RdW H v) (k : Same H H') : RdW H' v := by
  rcases h with h | h | ⟨t, i, j, e, et, hi, hj⟩
  · exact .inl h
  · exact .inr (.inl h)
  · exact .inr (.inr ⟨t, i, j, e, k _ _ et, hi, hj⟩)
theorem two_pair (a b : Str) : (tupleText [a, b]).length = a.length + b.length + 4 := by
  have h := join_length_add [a, b] (List.cons_ne_nil _ _)
  rw [piled_cons, piled_cons, piled_nil] at h
  have o : ("(" : Str).length = 1 := by decide +kernel
  have c : (((if [a, b].length == 1 then ",)" else ")" : String) : Str)).length = 1 := by
    show ((")" : String) : Str).length = 1
    decide +kernel
  unfold tupleText
  rw [Str.length_append, Str.length_append, o, c]
  omega
theorem bits_of {i : Int} (h : i.natAbs < 10 ^ 200) : i.natAbs.log2 < 1920 := by
  by_cases h0 : i.natAbs = 0
  · rw [h0]
    decide
  · exact Nat.lt_trans ((Nat.log2_lt h0).mpr (Nat.lt_trans h (by decide +kernel : 10 ^ 200 < 2 ^ 700))) (by decide)
/-- {x!r}: some text, not too long -/
def tFmtW (te : TE) : TE := fun σ H Q => te σ H fun x H1 => RdW H1 x ∧ ∀ m : Str, m.length ≤ 100000 → Q (.str m) H1
section
variable {X : Cx}
theorem pe_fmtW {e : Expr} {te : TE} {pos : Pos} {k : Nat} (hr : Room k X.A) (he : PE X e te) : PE X (.FormattedValue e 114 none pos) (tFmtW te) := by
  constructor
  intro pins s σ H Q inv asks
  apply wpAny_FormattedValue_repr
  refine wpAny_mono (he.run pins s σ H _ inv asks) (fun v s1 got => ?_) fun _ _ err => err
  obtain ⟨x, H1, I1, r1, hw, q⟩ := got
  have hs : (100000 : Nat) ≤ sizeLine := by decide
  have told : ∀ (m : Str) (u t' : Tok), m.length ≤ 100000 → EP X pins σ Q (.str m u) { s1 with toks := t' } := fun m u t' hm => ⟨.str m, H1, I1.tok _, ⟨u, rfl⟩, q m hm⟩
  rcases hw with (⟨i, rfl, hi⟩ | ⟨y, rfl, hy⟩) | rfl | ⟨t, i, j, rfl, et, hi, hj⟩
  · obtain ⟨t, rfl⟩ := r1
    have hl : (Str.ofString (toString i)).length ≤ 100000 := Nat.le_trans (text_len hi) (by decide)
    exact pyReprObj_int (bits_of hi) (wpAny_formatField_str (told _ _ _ hl) (told _ _ _ hl) (int_text_fits (bits_of hi)))
  · obtain ⟨t, rfl⟩ := r1
    have hz := Nat.le_trans hy hs
    exact pyReprObj_str (wpAny_formatField_str (told _ _ _ hy) (told _ _ _ hy) hz) hz
  · cases r1
    have hl : (("None" : String) : Str).length ≤ 100000 := by decide +kernel
    exact pyReprObj_none (wpAny_formatField_str (told _ _ _ hl) (told _ _ _ hl) (Nat.le_trans hl hs))
  · cases r1
    obtain ⟨its, rv, ⟨o, ho, hcl, n, hd⟩, _⟩ := I1.tuple (SqT.of (K := X.K) et)
    obtain ⟨u1, u2, rfl, r1, r2⟩ := vals2 rv
    obtain ⟨k1, rfl⟩ := r1
    obtain ⟨k2, rfl⟩ := r2
    have hu := hr.units
    have hT : ReprAll X.prog X.w [Value.int i k1, Value.int j k2] [Str.ofString (toString i), Str.ofString (toString j)] := .cons (ReprIs.int k1 (bits_of hi)) (.cons (ReprIs.int k2 (bits_of hj)) .nil)
    have hz : (tupleText [Str.ofString (toString i), Str.ofString (toString j)]).length ≤ 500 := by
      rw [two_pair]
      have := text_len hi
      have := text_len hj
      omega
    refine wpAny_pyReprObj_slot (by omega) ⟨o, ho, hcl⟩ F.slot_tuple_repr (fmt_tuple_repr ho hcl hd hT (Nat.le_trans hz (by decide)) fun m u tk hm => ⟨m, u, rfl, ?_⟩)
    have hl : m.length ≤ 100000 := by omega
    exact wpAny_formatField_str (told _ _ _ hl) (told _ _ _ hl) (Nat.le_trans hl hs)
end
def sp_initW (K : PySem.W.Frag) : Sp := fun vs H Q _ => ∃ (a C : Addr) (v : V), vs = [.ref a, v] ∧ OexC K C ∧ PySem.W.findIn K (.ref C) "what" = some none ∧ H a = some (exo a C none) ∧ RdW H v ∧
  ∀ d, H d = none → d ≠ a → Q .non (upd (upd H d (exd d [(("what" : Str), v)])) a (exo a C (some d)))
structure OwnW (P : Program) (w : World) (K : PySem.W.Frag) (mg : Str → Option Value) (base : Heap) (x : Str) (C : Addr) : Prop where
  ex : ∃ (fI : Addr) (fd : FuncData), Own K mg x C fI ∧ FnOk P w K mg base CX0 1 fI fd ["self", "what"] (sp_initW K) ∧ Binds K fd ["self", "what"] []
theorem OwnW.own {P : Program} {w : World} {K : PySem.W.Frag} {mg : Str → Option Value} {base : Heap} {x : Str} {C : Addr} (O : OwnW P w K mg base x C) : ∃ fI, Own K mg x C fI := by
  obtain ⟨fI, _, T, _⟩ := O.ex
  exact ⟨fI, T⟩
section
variable {X : Cx} {C : Addr} {x : Str} {e : Expr} {ta : TA} {W : WX} {p pos pos2 : Pos}
/-- raise C(e) -/
def tRaiseW (C : Addr) (W : WX) (ta : TA) : TS := fun _ σ H => ta σ H fun vs H1 => ∃ v, vs = [v] ∧ RdW H1 v ∧ ∀ d, H1 d = none → W (.ref C) (some d) σ (upd H1 d (.xd [(("what" : Str), v)]))
theorem ps_raiseW (O : OwnW X.prog X.w X.K X.mg X.base x C) (hr : Room 2 X.A) (hc : X.calm = true) (tk : Takes X W) (ha : PA X [e] ta) (hg : Gl X x) (hdb : (x == ("__debug__" : Str)) = false := by decide)
    (he : starEach [e] X.env = (false, eval e X.env) :: starEach [] X.env := by rfl) (hpl : (backTo pos (starEach [] X.env)).any (·.1) = false := by rfl) :
    PS X (.Raise (some (.Call (.Name x p) [e] [] pos)) none pos2) (tRaiseW C W ta) := by
  obtain ⟨fI, fd, T, F, b⟩ := O.ex
  refine ⟨fun pins s σ H D I h => ?_⟩
  refine (ps_raise hc tk (pmk_oex T.o T.iC T.tI F hr b .nil pass0 hg T.g (pa_on ha h) hdb he hpl)).run pins s σ H D I ⟨rfl, rfl, fun vs H1 ⟨v, ev, rv, q⟩ => ?_⟩
  subst ev
  refine ⟨by show 1 ≤ 1000; decide, fun a na => ⟨a, C, v, rfl, T.o, T.no, upd_same, rv.same (same_new na), fun d nd da => ⟨rfl, d, _, upd_same, by rw [upd_ne da, upd_same], ?_, ?_⟩⟩⟩
  · rw [upd_ne da] at nd
    exact nd
  · rw [mk_heap na da]
    exact q d (by rw [upd_ne da] at nd; exact nd)
end
end El
namespace El
open PySem PySem.Spec PyProof.Rows L2
/-! ### the first guest that there can't be; the first room with a wrong age in it -/
def BadAt (gs : List (Int × Int)) (i : Nat) : Prop := ∃ g, gs[i]? = some g ∧ (g.2 < 0 ∨ g.1 ∈ (gs.take i).map (·.1))
def FirstBad (gs : List (Int × Int)) (i : Nat) : Prop := BadAt gs i ∧ ∀ j, j < i → ¬ BadAt gs j
theorem fit_of {gs : List (Int × Int)} (h : ∀ i, ¬ BadAt gs i) : Fit gs := by
  refine ⟨?_, fun g m => ?_⟩
  · rw [List.nodup_iff_pairwise_ne, List.pairwise_iff_getElem]
    intro i j hi hj hij z
    rw [List.length_map] at hi hj
    rw [List.getElem_map, List.getElem_map] at z
    refine h j ⟨gs[j], List.getElem?_eq_getElem hj, .inr ?_⟩
    rw [← z]
    refine List.mem_map_of_mem (List.mem_iff_getElem?.mpr ⟨i, ?_⟩)
    rw [List.getElem?_take_of_lt hij, List.getElem?_eq_getElem hi]
  · obtain ⟨i, e⟩ := List.mem_iff_getElem?.mp m
    exact Int.not_lt.mp fun z => h i ⟨g, e, .inl z⟩
theorem Fit.none_bad {gs : List (Int × Int)} (F : Fit gs) (i : Nat) : ¬ BadAt gs i := fun ⟨g, e, h⟩ => by
  rcases h with h | h
  · have := F.pos g (List.mem_of_getElem? e)
    omega
  · exact F.take_no e h
theorem bad_take {gs : List (Int × Int)} {i j : Nat} (h : j < i) (hb : BadAt (gs.take i) j) : BadAt gs j := by
  obtain ⟨g, e, z⟩ := hb
  rw [List.getElem?_take_of_lt h] at e
  rw [List.take_take, Nat.min_eq_left (Nat.le_of_lt h)] at z
  exact ⟨g, e, z⟩
theorem fit_take {gs : List (Int × Int)} {i : Nat} (h : ∀ j, j < i → ¬ BadAt gs j) : Fit (gs.take i) := fit_of fun j hb => by
  have hj : j < i := by
    obtain ⟨g, e, _⟩ := hb
    have := at_lt e
    rw [List.length_take] at this
    omega
  exact h j hj (bad_take hj hb)
/-- what of an arrangement has been gone through is as it should be -/
def Seemly (ages pre : List Int) : Prop := pre.Nodup ∧ ∀ b ∈ pre, b ∈ ages
theorem Seemly.nil (ages : List Int) : Seemly ages [] := ⟨List.nodup_nil, fun b m => by cases m⟩
theorem Seemly.snoc {ages pre : List Int} {a : Int} (h : Seemly ages pre) (h1 : a ∈ ages) (h2 : a ∉ pre) : Seemly ages (pre ++ [a]) := by
  refine ⟨List.nodup_append.mpr ⟨h.1, by simp, fun x hx y hy => ?_⟩, fun b m => ?_⟩
  · rw [List.mem_singleton.mp hy]
    exact fun z => h2 (z ▸ hx)
  · rcases List.mem_append.mp m with m | m
    · exact h.2 b m
    · rw [List.mem_singleton.mp m]
      exact h1
theorem Seemly.len {ages pre : List Int} (h : Seemly ages pre) : pre.length ≤ ages.length := List.Nodup.length_le_of_subset h.1 h.2
theorem Seemly.left {ages pre l : List Int} (h : Seemly ages (pre ++ l)) : Seemly ages pre := ⟨(List.nodup_append.mp h.1).1, fun b m => h.2 b (List.mem_append_left _ m)⟩
theorem Seemly.perm {ages pre : List Int} (h : Seemly ages pre) (nd : ages.Nodup) (hl : ¬ pre.length < ages.length) : pre.Perm ages := by
  refine (List.perm_ext_iff_of_nodup h.1 nd).mpr fun a => ⟨h.2 a, fun m => Classical.byContradiction fun z => ?_⟩
  have := Seemly.len (h.snoc m z)
  rw [List.length_append, List.length_singleton] at this
  omega
/-- the first room in which stands an age that none has, or that stands ahead -/
def FirstOdd (ages : List Int) (rs : List (List Int)) (k : Nat) : Prop := ∃ (r : List Int) (j : Nat) (a : Int), rs[k]? = some r ∧ r[j]? = some a ∧ Seemly ages ((rs.take k).flatten ++ r.take j) ∧ (a ∉ ages ∨ a ∈ (rs.take k).flatten ++ r.take j)
/-- all that stands there is as it should be, but somebody is left out -/
def LeftOut (ages : List Int) (rs : List (List Int)) : Prop := Seemly ages rs.flatten ∧ rs.flatten.length < ages.length
theorem flat_pre {rs : List (List Int)} {k : Nat} {r : List Int} (e : rs[k]? = some r) {i : Nat} (h : i < k) : ∃ l, (rs.take k).flatten = (rs.take (i + 1)).flatten ++ l := by
  have := List.take_append_drop (i + 1) (rs.take k)
  refine ⟨((rs.take k).drop (i + 1)).flatten, ?_⟩
  rw [← List.flatten_append]
  congr 1
  rw [show rs.take (i + 1) = (rs.take k).take (i + 1) by rw [List.take_take, Nat.min_eq_left (by omega)]]
  exact this.symm
/-- behind the first odd one nothing fine goes on: position (i, m) is ahead of it, or it is there -/
theorem odd_ahead {ages : List Int} {rs : List (List Int)} {k j : Nat} {r : List Int} {a : Int} (er : rs[k]? = some r) (ea : r[j]? = some a) (hb : a ∉ ages ∨ a ∈ (rs.take k).flatten ++ r.take j) (hp : Seemly ages ((rs.take k).flatten ++ r.take j))
    {i m : Nat} {s : List Int} {b : Int} (es : rs[i]? = some s) (eb : s[m]? = some b) (hf : Seemly ages ((rs.take i).flatten ++ s.take m)) (hbad : b ∉ ages ∨ b ∈ (rs.take i).flatten ++ s.take m) : i = k ∧ m = j := by
  have one : ∀ {k j : Nat} {r : List Int} {a : Int}, rs[k]? = some r → r[j]? = some a → (a ∉ ages ∨ a ∈ (rs.take k).flatten ++ r.take j) → ∀ {i m : Nat} {s : List Int}, rs[i]? = some s → Seemly ages ((rs.take i).flatten ++ s.take m) → m ≤ s.length → ¬ (k < i ∨ (k = i ∧ j < m)) := fun {k j r a} er ea hb {i m s} es hf hm hlt => by
    have : ∃ l, (rs.take i).flatten ++ s.take m = ((rs.take k).flatten ++ r.take j ++ [a]) ++ l := by
      rcases hlt with h | ⟨rfl, h⟩
      · obtain ⟨l, e⟩ := flat_pre es h
        refine ⟨r.drop (j + 1) ++ l ++ s.take m, ?_⟩
        rw [e, take_snoc_flat er]
        have e2 : r = r.take j ++ [a] ++ r.drop (j + 1) := by
          rw [← take_snoc ea, List.take_append_drop]
        conv => lhs; rw [e2]
        simp
      · obtain rfl : r = s := Option.some.inj (er.symm.trans es)
        refine ⟨(r.take m).drop (j + 1), ?_⟩
        have e2 : r.take m = r.take j ++ [a] ++ (r.take m).drop (j + 1) := by
          rw [← take_snoc ea]
          have := List.take_append_drop (j + 1) (r.take m)
          rw [List.take_take, Nat.min_eq_left (by omega)] at this
          exact this.symm
        conv => lhs; rw [e2]
        simp
    obtain ⟨l, e⟩ := this
    rw [e] at hf
    have hf := hf.left
    rcases hb with hb | hb
    · exact hb (hf.2 a (List.mem_append_right _ (List.mem_singleton.mpr rfl)))
    · exact (List.nodup_append.mp hf.1).2.2 a hb a (List.mem_singleton.mpr rfl) rfl
  have h1 := one er ea hb es hf (Nat.le_of_lt (at_lt eb))
  have h2 := one es eb hbad er hp (Nat.le_of_lt (at_lt ea))
  omega
/-- where something is odd, not all is fine -/
theorem odd_not {ages : List Int} {rs : List (List Int)} {k : Nat} (h : FirstOdd ages rs k) (hf : Seemly ages rs.flatten) : False := by
  obtain ⟨r, j, a, er, ea, _, hb⟩ := h
  rcases hb with hb | hb
  · exact hb (hf.2 a (flat_mem er ea))
  · exact flat_split hf.1 er ea hb
/-- a value that a refusal keeps: a number, None, or two numbers -/
inductive Dv where
  | num (i : Int)
  | non
  | two (i j : Int)
def Dv.is (H : Hp) (v : V) : Dv → Prop
  | .num i => v = .int i
  | .non => v = .non
  | .two i j => ∃ t, v = .ref t ∧ H t = some (.tup [.int i, .int j])
theorem Dv.is.same {H H' : Hp} {v : V} (k : Same H H') : ∀ {x : Dv}, x.is H v → x.is H' v
  | .num _, h => h
  | .non, h => h
  | .two _ _, ⟨t, e, h⟩ => ⟨t, e, k _ _ h⟩
def Dv.d : Dv → PyData
  | .num i => .int i
  | .non => .none
  | .two i j => .tuple [.int i, .int j]
theorem Dv.is.dp {K : PySem.W.Frag} {H : Hp} {v : V} : ∀ {x : Dv}, x.is H v → Dp K H v x.d
  | .num i, h => by
    obtain rfl : v = .int i := h
    exact .int i
  | .non, h => by
    obtain rfl : v = .non := h
    exact .non
  | .two i j, ⟨t, e, h⟩ => by
    subst e
    exact .tup (SqT.of h) (.cons (.int i) (.cons (.int j) .nil))
theorem Dv.oks : ∀ x : Dv, Oks 1 x.d
  | .num i => (Oks.int i).mono (by decide)
  | .non => ⟨rfl, by simp [Dv.d, PyData.depth]⟩
  | .two i j => .tup fun x m => by
    rcases List.mem_cons.mp m with rfl | m
    · exact .int i
    · rw [List.mem_singleton.mp m]
      exact .int j
/-- None, or a word and such a value -/
def dDv : Option (Str × Dv) → PyData
  | none => .none
  | some (s, x) => .tuple [.str s, x.d]
def DvAt (H : Hp) (v : V) : Option (Str × Dv) → Prop
  | none => v = .non
  | some (s, x) => ∃ t u, v = .ref t ∧ H t = some (.tup [.str s, u]) ∧ x.is H u
theorem DvAt.same {H H' : Hp} {v : V} : ∀ {D : Option (Str × Dv)}, DvAt H v D → Same H H' → DvAt H' v D
  | none, h, _ => h
  | some _, ⟨t, u, e, h, hx⟩, k => ⟨t, u, e, k _ _ h, hx.same k⟩
theorem DvAt.dp {K : PySem.W.Frag} {H : Hp} {v : V} : ∀ {D : Option (Str × Dv)}, DvAt H v D → Dp K H v (dDv D)
  | none, h => by
    obtain rfl : v = .non := h
    exact .non
  | some (s, x), ⟨t, u, e, h, hx⟩ => by
    subst e
    exact .tup (SqT.of h) (.cons (.str s) (.cons hx.dp .nil))
theorem Oks.dv {D : Option (Str × Dv)} (h : ∀ s x, D = some (s, x) → PyData.strOk s = true) : Oks 2 (dDv D) := by
  cases D with
  | none => exact ⟨rfl, by simp [dDv, PyData.depth]⟩
  | some p =>
    obtain ⟨s, x⟩ := p
    have hs := h s x rfl
    exact Oks.tup (n := 1) fun y m => by
      rcases List.mem_cons.mp m with rfl | m
      · exact ⟨by simp [PyData.canLay0, hs], by simp [PyData.depth]⟩
      · rw [List.mem_singleton.mp m]
        exact x.oks
end El
namespace El
open PySem PySem.Spec PyProof.Rows L2
def topS (i : Nat) : Stmt := PySem.Challenge.pw_elderinn_k32_best_refused.main.body.getD i (.Pass ⟨0, 0, 0, 0⟩)
end El
namespace El
open PySem PySem.Spec PyProof.Rows L2
section
variable {P : Program} {w : World} {K : PySem.W.Frag} {mg : Str → Option Value} {base : Heap}
abbrev sI_NoGuest : Stmt := inClass (topS 2) 0
theorem scI_NoGuest : FnScope ["self", "what"] ["self", "what"] (defScope sI_NoGuest) := ⟨rfl, rfl, rfl, by decide +kernel, rfl, by decide +kernel, by decide +kernel⟩
theorem own_NoGuest {C0 C fI : Addr} {fd : FuncData} (T : Own K mg "NoGuest" C fI) (F : Fun K "__init__" "NoGuest.__init__" sI_NoGuest fI fd) (T0 : InnC K mg C0) : OwnW P w K mg base "NoGuest" C := by
  refine ⟨fI, fd, T, F.ok scI_NoGuest (fun vs H Q E h => ?_) (fun cdv AA outer s H vs Q E hr h => ?_), F.binds fun _ _ _ _ _ _ us hl => match us, hl with | [_, _], _ => rfl⟩
  · obtain ⟨_, _, _, rfl, _⟩ := h
    rfl
  · obtain ⟨a, D, v, rfl, hC, hw, ha, hv, q⟩ := h
    have nd := scI_NoGuest.nd
    refine ⟨_, pss_cons (ps_expr (pe_ownI T0 (pa_cons (pv 0) (pa_cons (pe_joined (.cons pe_str (.cons (pe_fmtW hr (pv 1)) .nil))) pa_nil)))) (pss_one (ps_ost (pv 0) (pv 1))), ?_⟩
    refine ⟨.ref a, rfl, ?_⟩
    have last : tOst K "what" (tVar 0) (tVar 1) { nx := fun _ H' => Q .non H', rt := Q } [some (.ref a), some v] H := ⟨v, rfl, .ref a, rfl, a, D, rfl, hC, hw, .inl ⟨ha, q⟩⟩
    refine ⟨_, rfl, (by show _ ≤ sizeLine; decide +kernel), v, rfl, hv, fun m hm => ⟨_, rfl, ?_, a, D, _, rfl, (by show 1 ≤ 1000; decide), hC, ha, last⟩⟩
    rw [PySem.Str.length_append]
    exact Nat.le_trans (Nat.add_le_add (show _ ≤ 1000 by decide +kernel) hm) (by decide)
end
end El
namespace El
open PySem PySem.Spec PyProof.Rows L2
section
variable {P : Program} {w : World} {K : PySem.W.Frag} {mg : Str → Option Value} {base : Heap}
abbrev sI_NoRooms : Stmt := inClass (topS 3) 0
theorem scI_NoRooms : FnScope ["self", "what"] ["self", "what"] (defScope sI_NoRooms) := ⟨rfl, rfl, rfl, by decide +kernel, rfl, by decide +kernel, by decide +kernel⟩
theorem own_NoRooms {C0 C fI : Addr} {fd : FuncData} (T : Own K mg "NoRooms" C fI) (F : Fun K "__init__" "NoRooms.__init__" sI_NoRooms fI fd) (T0 : InnC K mg C0) : OwnW P w K mg base "NoRooms" C := by
  refine ⟨fI, fd, T, F.ok scI_NoRooms (fun vs H Q E h => ?_) (fun cdv AA outer s H vs Q E hr h => ?_), F.binds fun _ _ _ _ _ _ us hl => match us, hl with | [_, _], _ => rfl⟩
  · obtain ⟨_, _, _, rfl, _⟩ := h
    rfl
  · obtain ⟨a, D, v, rfl, hC, hw, ha, hv, q⟩ := h
    have nd := scI_NoRooms.nd
    refine ⟨_, pss_cons (ps_expr (pe_ownI T0 (pa_cons (pv 0) (pa_cons (pe_joined (.cons pe_str (.cons (pe_fmtW hr (pv 1)) .nil))) pa_nil)))) (pss_one (ps_ost (pv 0) (pv 1))), ?_⟩
    refine ⟨.ref a, rfl, ?_⟩
    have last : tOst K "what" (tVar 0) (tVar 1) { nx := fun _ H' => Q .non H', rt := Q } [some (.ref a), some v] H := ⟨v, rfl, .ref a, rfl, a, D, rfl, hC, hw, .inl ⟨ha, q⟩⟩
    refine ⟨_, rfl, (by show _ ≤ sizeLine; decide +kernel), v, rfl, hv, fun m hm => ⟨_, rfl, ?_, a, D, _, rfl, (by show 1 ≤ 1000; decide), hC, ha, last⟩⟩
    rw [PySem.Str.length_append]
    exact Nat.le_trans (Nat.add_le_add (show _ ≤ 1000 by decide +kernel) hm) (by decide)
end
end El
namespace El
open PySem PySem.Spec PyProof.Rows L2
section
variable {P : Program} {w : World} {K : PySem.W.Frag} {mg : Str → Option Value} {base : Heap}
abbrev sI_NoRoom : Stmt := inClass (topS 4) 0
theorem scI_NoRoom : FnScope ["self", "what"] ["self", "what"] (defScope sI_NoRoom) := ⟨rfl, rfl, rfl, by decide +kernel, rfl, by decide +kernel, by decide +kernel⟩
theorem own_NoRoom {C0 C fI : Addr} {fd : FuncData} (T : Own K mg "NoRoom" C fI) (F : Fun K "__init__" "NoRoom.__init__" sI_NoRoom fI fd) (T0 : InnC K mg C0) : OwnW P w K mg base "NoRoom" C := by
  refine ⟨fI, fd, T, F.ok scI_NoRoom (fun vs H Q E h => ?_) (fun cdv AA outer s H vs Q E hr h => ?_), F.binds fun _ _ _ _ _ _ us hl => match us, hl with | [_, _], _ => rfl⟩
  · obtain ⟨_, _, _, rfl, _⟩ := h
    rfl
  · obtain ⟨a, D, v, rfl, hC, hw, ha, hv, q⟩ := h
    have nd := scI_NoRoom.nd
    refine ⟨_, pss_cons (ps_expr (pe_ownI T0 (pa_cons (pv 0) (pa_cons (pe_joined (.cons pe_str (.cons (pe_fmtW hr (pv 1)) .nil))) pa_nil)))) (pss_one (ps_ost (pv 0) (pv 1))), ?_⟩
    refine ⟨.ref a, rfl, ?_⟩
    have last : tOst K "what" (tVar 0) (tVar 1) { nx := fun _ H' => Q .non H', rt := Q } [some (.ref a), some v] H := ⟨v, rfl, .ref a, rfl, a, D, rfl, hC, hw, .inl ⟨ha, q⟩⟩
    refine ⟨_, rfl, (by show _ ≤ sizeLine; decide +kernel), v, rfl, hv, fun m hm => ⟨_, rfl, ?_, a, D, _, rfl, (by show 1 ≤ 1000; decide), hC, ha, last⟩⟩
    rw [PySem.Str.length_append]
    exact Nat.le_trans (Nat.add_le_add (show _ ≤ 1000 by decide +kernel) hm) (by decide)
end
end El
namespace El
open PySem PySem.Spec PyProof.Rows L2
section
variable {P : Program} {w : World} {K : PySem.W.Frag} {mg : Str → Option Value} {base : Heap}
abbrev s_patience_by_age : Stmt := topS 8
abbrev N_patience_by_age : List Str := ["guests", "patience_of", "number", "age", "patience"]
abbrev P_patience_by_age : List Str := ["guests"]
theorem sc_patience_by_age : FnScope N_patience_by_age P_patience_by_age (defScope s_patience_by_age) := ⟨rfl, rfl, rfl, by decide +kernel, rfl, by decide +kernel, by decide +kernel⟩
def sp_patience_by_age : Sp := fun vs H Q _ => ∃ (B : Addr → Prop) (a : Addr) (ts : List Addr) (gs : List (Int × Int)), vs = [.ref a] ∧ GsAt H B a ts gs ∧ Fit gs ∧ gs.length ≤ 1000 ∧
  ∀ H' d, Same H H' → H d = none → H' d = some (.dK (pks gs)) → Q (.ref d) H'
theorem ok_patience_by_age (A : At K mg "patience_by_age" P_patience_by_age s_patience_by_age) (B : Bi mg) : Df P w K mg base 1 "patience_by_age" P_patience_by_age s_patience_by_age sp_patience_by_age := by
  refine A.df fun f fd F => F.ok sc_patience_by_age (fun vs H Q E h => ?_) (fun cdv AA outer s H vs Q E hr h => ?_)
  · obtain ⟨_, a, _, _, rfl, _⟩ := h
    rfl
  · obtain ⟨BB, a, ts, gs, rfl, hG, hF, hl, q⟩ := h
    have nd := sc_patience_by_age.nd
    refine ⟨_, (pss_cons (ps_set (i := 1) nd rfl (.inl rfl) pe_dnewK)
    (pss_cons (ps_for PassesOwn.never rfl (pi_enum (by rfl) B.enumerate (pa_cons (pv 0) pa_nil)) (pg_tup (by rfl) (pgs_cons (pg_name (i := 2) nd rfl (.inl rfl)) (pgs_cons (pg_tup (by rfl) (pgs_cons (pg_name (i := 3) nd rfl (.inl rfl)) (pgs_cons (pg_name (i := 4) nd rfl (.inl rfl)) pgs_nil))) pgs_nil))) (pss_cons (ps_if (PW.pt (pw_or (pt_cmpR op_lt (pv 4) pe_int (nomark _)) (pw_or1 (pt_cmp (pc_din (hu_of hr) (pv 3) (pv 1)))))) (pss_one ps_never) pss_nil) (pss_one (ps_dput (hu_of hr) (pv 1) (pv 3) (pv 4) rfl))))
    (pss_one (ps_ret (pv 1))))), ?_⟩
    -- patience_of = {}
    refine fun d nd => ?_
    have hG1 := hG.same (same_new (o := .dK []) nd)
    -- the loop
    refine ⟨.ref a, rfl, a, ts.map V.ref, rfl, hG1.seq, ?_⟩
    refine for_it (walk_enum (xs := ts.map V.ref)) (fun i σ H2 => ∃ y2 y3 y4, σ = [some (.ref a), some (.ref d), y2, y3, y4] ∧ Same H H2 ∧ H2 d = some (.dK (pks (gs.take i)))) ⟨none, none, none, rfl, same_new nd, upd_same⟩ (fun i σ H2 _ hW => ?_) (fun i x σ H2 H3 hi hW hY => ?_) (fun σ H2 hW => ?_)
    · obtain ⟨_, _, _, _, sm, _⟩ := hW
      exact (hG.same sm).seq
    · obtain ⟨y2, y3, y4, rfl, sm, hd⟩ := hW
      obtain ⟨T, x1, x2, rfl, nT, rfl, f1, f2⟩ := hY
      obtain rfl : V.int ↑i = x1 := Option.some.inj f1
      obtain ⟨t, g, rfl, eg, et⟩ := (hG.same sm).get f2
      have s3 : Same H2 (upd H2 T (.tup [.int i, .ref t])) := same_new nT
      refine ⟨T, [.int i, .ref t], rfl, SqT.of upd_same, rfl, .int i, [.ref t], rfl, .ref t, [], rfl, ?_⟩
      refine ⟨t, _, rfl, SqT.of (s3 _ _ et), rfl, .int g.1, [.int g.2], rfl, .int g.2, [], rfl, rfl, rfl, ?_⟩
      -- the test
      have hg : 0 ≤ g.2 := hF.pos g (List.mem_of_getElem? eg)
      have no := hF.take_no eg
      refine ⟨.int g.2, rfl, _, _, rfl, rfl, _, rfl, ?_⟩
      rw [decide_eq_false (by omega)]
      refine iteF ?_
      refine ⟨.int g.1, rfl, .ref d, rfl, d, _, rfl, DGet.k (k := Sum.inl g.1) (s3 _ _ hd), _, rfl, ?_⟩
      rw [pks_none no]
      refine iteF ?_
      refine ⟨.int g.2, rfl, .ref d, rfl, .int g.1, rfl, d, _, rfl, DPut.k (k := Sum.inl g.1) (s3 _ _ hd) (ils (by rw [pks_len, List.length_take]; omega)), ?_⟩
      refine ⟨some (.int i), some (.int g.1), some (.int g.2), rfl, Same.mut (Same.trans sm s3) nd, ?_⟩
      rw [upd_same, putK_snoc no, take_snoc eg]
    · obtain ⟨y2, y3, y4, rfl, sm, hd⟩ := hW
      rw [show (ts.map V.ref).length = gs.length by rw [List.length_map, hG.len], take_full] at hd
      exact ⟨.ref d, rfl, q H2 d sm nd hd⟩
end
end El
namespace El
open PySem PySem.Spec PyProof.Rows L2
theorem small_nat {i : Nat} (h : i ≤ 1000) : ((i : Nat) : Int).natAbs < 10 ^ 200 := by
  rw [Int.natAbs_natCast]
  exact Nat.lt_of_lt_of_le (show i < 1001 by omega) (by decide +kernel)
/-- what a def whose first argument is a list of guests refuses, whatever the others are -/
def sp_bg (CG : Addr) (n : Nat) : Sp := fun vs H _ E => ∃ (B : Addr → Prop) (a : Addr) (ts : List Addr) (gs : List (Int × Int)) (i : Nat) (more : List V), vs = .ref a :: more ∧ more.length = n ∧ GsAt H B a ts gs ∧ gs.length ≤ 1000 ∧ FirstBad gs i ∧
  ∀ H' d, Same H H' → H' d = some (.xd [(("what" : Str), .int (i : Nat))]) → E (.ref CG) (some d) H'
section
variable {P : Program} {w : World} {K : PySem.W.Frag} {mg : Str → Option Value} {base : Heap}
theorem okb_patience_by_age {CG : Addr} (A : At K mg "patience_by_age" P_patience_by_age s_patience_by_age) (B : Bi mg) (E_NoGuest : OwnW P w K mg base "NoGuest" CG) : DfX P w K mg base 3 "patience_by_age" P_patience_by_age s_patience_by_age (sp_bg CG 0) := by
  refine A.dfx fun f fd F => F.okX sc_patience_by_age (fun vs H Q E h => ?_) (fun cdv AA outer s H vs Q E hr h => ?_)
  · obtain ⟨_, _, _, _, _, more, rfl, hm, _⟩ := h
    rw [List.length_cons, hm]
    rfl
  · obtain ⟨BB, a, ts, gs, m, more, rfl, hm, hG, hl, hb, q⟩ := h
    obtain rfl := List.eq_nil_of_length_eq_zero hm
    have nd := sc_patience_by_age.nd
    refine ⟨_, (pss_cons (ps_set (i := 1) nd rfl (.inl rfl) pe_dnewK)
    (pss_cons (ps_for (passes_of rfl) rfl (pi_enum (by rfl) B.enumerate (pa_cons (pv 0) pa_nil)) (pg_tup (by rfl) (pgs_cons (pg_name (i := 2) nd rfl (.inl rfl)) (pgs_cons (pg_tup (by rfl) (pgs_cons (pg_name (i := 3) nd rfl (.inl rfl)) (pgs_cons (pg_name (i := 4) nd rfl (.inl rfl)) pgs_nil))) pgs_nil))) (pss_cons (ps_if (PW.pt (pw_or (pt_cmpR op_lt (pv 4) pe_int (nomark _)) (pw_or1 (pt_cmp (pc_din (hu_of hr) (pv 3) (pv 1)))))) (pss_one (ps_raiseW E_NoGuest (hr.mono (by decide)) rfl (takes_of rfl rfl rfl rfl) (pa_cons (pv 2) pa_nil) (by rfl))) pss_nil) (pss_one (ps_dput (hu_of hr) (pv 1) (pv 3) (pv 4) rfl))))
    (pss_one (ps_ret (pv 1))))), ?_⟩
    refine fun d nd => ?_
    have hG1 := hG.same (same_new (o := .dK []) nd)
    refine ⟨.ref a, rfl, a, ts.map V.ref, rfl, hG1.seq, ?_⟩
    have hml : m < gs.length := by
      obtain ⟨g, e, _⟩ := hb.1
      exact at_lt e
    refine for_it (walk_enum (xs := ts.map V.ref)) (fun i σ H2 => ∃ y2 y3 y4, σ = [some (.ref a), some (.ref d), y2, y3, y4] ∧ Same H H2 ∧ H2 d = some (.dK (pks (gs.take i))) ∧ i ≤ m) ⟨none, none, none, rfl, same_new nd, upd_same, Nat.zero_le _⟩ (fun i σ H2 _ hW => ?_) (fun i x σ H2 H3 hi hW hY => ?_) (fun σ H2 hW => ?_)
    · obtain ⟨_, _, _, _, sm, _⟩ := hW
      exact (hG.same sm).seq
    · obtain ⟨y2, y3, y4, rfl, sm, hd, him⟩ := hW
      obtain ⟨T, x1, x2, rfl, nT, rfl, f1, f2⟩ := hY
      obtain rfl : V.int ↑i = x1 := Option.some.inj f1
      obtain ⟨t, g, rfl, eg, et⟩ := (hG.same sm).get f2
      have s3 : Same H2 (upd H2 T (.tup [.int i, .ref t])) := same_new nT
      refine ⟨T, [.int i, .ref t], rfl, SqT.of upd_same, rfl, .int i, [.ref t], rfl, .ref t, [], rfl, ?_⟩
      refine ⟨t, _, rfl, SqT.of (s3 _ _ et), rfl, .int g.1, [.int g.2], rfl, .int g.2, [], rfl, rfl, rfl, ?_⟩
      have raised : BadAt gs i → ∀ d', upd H2 T (.tup [.int i, .ref t]) d' = none → E (.ref CG) (some d') (upd (upd H2 T (.tup [.int i, .ref t])) d' (.xd [(("what" : Str), .int (i : Nat))])) := fun h d' nd' => by
        obtain rfl : i = m := by
          by_cases z : i < m
          · exact absurd h (hb.2 i z)
          · omega
        exact q _ d' ((sm.trans s3).trans (same_new nd')) upd_same
      have hi1 : i ≤ 1000 := by omega
      refine ⟨.int g.2, rfl, _, _, rfl, rfl, _, rfl, ?_⟩
      by_cases hneg : g.2 < 0
      · rw [decide_eq_true hneg]
        refine iteT ⟨.int i, rfl, .int i, rfl, .inl (.inl ⟨i, rfl, small_nat hi1⟩), raised ⟨g, eg, .inl hneg⟩⟩
      · rw [decide_eq_false hneg]
        refine iteF ?_
        refine ⟨.int g.1, rfl, .ref d, rfl, d, _, rfl, DGet.k (k := Sum.inl g.1) (s3 _ _ hd), _, rfl, ?_⟩
        by_cases hin : g.1 ∈ (gs.take i).map (·.1)
        · obtain ⟨x, hx, ex⟩ := List.mem_map.mp hin
          have hF : Fit (gs.take i) := fit_take fun j hj => hb.2 j (by omega)
          have e1 : valV (pks (gs.take i)) (Sum.inl g.1) = some (.int x.2) := by
            rw [← ex]
            exact pks_some hF.nd hx
          rw [e1]
          exact iteT ⟨.int i, rfl, .int i, rfl, .inl (.inl ⟨i, rfl, small_nat hi1⟩), raised ⟨g, eg, .inr hin⟩⟩
        · rw [pks_none hin]
          refine iteF ?_
          refine ⟨.int g.2, rfl, .ref d, rfl, .int g.1, rfl, d, _, rfl, DPut.k (k := Sum.inl g.1) (s3 _ _ hd) (ils (by rw [pks_len, List.length_take]; omega)), ?_⟩
          refine ⟨some (.int i), some (.int g.1), some (.int g.2), rfl, Same.mut (Same.trans sm s3) nd, ?_, ?_⟩
          · rw [upd_same, putK_snoc hin, take_snoc eg]
          · by_cases z : i = m
            · subst z
              obtain ⟨g', e', h'⟩ := hb.1
              obtain rfl : g = g' := Option.some.inj (eg.symm.trans e')
              exact absurd h' (fun h' => h'.elim hneg hin)
            · omega
    · obtain ⟨y2, y3, y4, rfl, sm, hd, him⟩ := hW
      rw [List.length_map, hG.len] at him
      omega
end
end El
namespace El
open PySem PySem.Spec PyProof.Rows L2
section
variable {P : Program} {w : World} {K : PySem.W.Frag} {mg : Str → Option Value} {base : Heap}
abbrev s_check_newcomer : Stmt := topS 9
abbrev N_check_newcomer : List Str := ["patience_of", "age", "patience"]
abbrev P_check_newcomer : List Str := ["patience_of", "age", "patience"]
theorem sc_check_newcomer : FnScope N_check_newcomer P_check_newcomer (defScope s_check_newcomer) := ⟨rfl, rfl, rfl, by decide +kernel, rfl, by decide +kernel, by decide +kernel⟩
def sp_check_newcomer : Sp := fun vs H Q _ => ∃ (d : Addr) (gs : List (Int × Int)) (a p : Int), vs = [.ref d, .int a, .int p] ∧ H d = some (.dK (pks gs)) ∧ a ∉ gs.map (·.1) ∧ 0 ≤ p ∧ Q .non H
theorem ok_check_newcomer (A : At K mg "check_newcomer" P_check_newcomer s_check_newcomer) : Df P w K mg base 1 "check_newcomer" P_check_newcomer s_check_newcomer sp_check_newcomer := by
  refine A.df fun f fd F => F.ok sc_check_newcomer (fun vs H Q E h => ?_) (fun cdv AA outer s H vs Q E hr h => ?_)
  · obtain ⟨_, _, _, _, rfl, _⟩ := h
    rfl
  · obtain ⟨d, gs, a, p, rfl, hd, ha, hp, q⟩ := h
    have nd := sc_check_newcomer.nd
    refine ⟨_, (pss_one (ps_if (PW.pt (pw_or (pt_cmpR op_lt (pv 2) pe_int (nomark _)) (pw_or1 (pt_cmp (pc_din (hu_of hr) (pv 1) (pv 0)))))) (pss_one ps_never) pss_nil)), ?_⟩
    refine ⟨.int p, rfl, _, _, rfl, rfl, _, rfl, ?_⟩
    rw [decide_eq_false (by omega)]
    refine iteF ?_
    refine ⟨.int a, rfl, .ref d, rfl, d, _, rfl, DGet.k (k := Sum.inl a) hd, _, rfl, ?_⟩
    rw [pks_none ha]
    exact iteF q
end
end El
namespace El
open PySem PySem.Spec PyProof.Rows L2
def sp_check_newcomer_b (CG : Addr) : Sp := fun vs H _ E => ∃ (d : Addr) (gs : List (Int × Int)) (x y : Int), vs = [.ref d, .int x, .int y] ∧ H d = some (.dK (pks gs)) ∧ (y < 0 ∨ x ∈ gs.map (·.1)) ∧ (gs.map (·.1)).Nodup ∧ x.natAbs < 10 ^ 200 ∧ y.natAbs < 10 ^ 200 ∧
  ∀ H' d t, Same H H' → H' d = some (.xd [(("what" : Str), .ref t)]) → H' t = some (.tup [.int x, .int y]) → E (.ref CG) (some d) H'
section
variable {P : Program} {w : World} {K : PySem.W.Frag} {mg : Str → Option Value} {base : Heap}
theorem okb_check_newcomer {CG : Addr} (A : At K mg "check_newcomer" P_check_newcomer s_check_newcomer) (E_NoGuest : OwnW P w K mg base "NoGuest" CG) : DfX P w K mg base 3 "check_newcomer" P_check_newcomer s_check_newcomer (sp_check_newcomer_b CG) := by
  refine A.dfx fun f fd F => F.okX sc_check_newcomer (fun vs H Q E h => ?_) (fun cdv AA outer s H vs Q E hr h => ?_)
  · obtain ⟨_, _, _, _, rfl, _⟩ := h
    rfl
  · obtain ⟨d, gs, x, y, rfl, hd, hb, hn, hx, hy, q⟩ := h
    have nd := sc_check_newcomer.nd
    refine ⟨_, (pss_one (ps_if (PW.pt (pw_or (pt_cmpR op_lt (pv 2) pe_int (nomark _)) (pw_or1 (pt_cmp (pc_din (hu_of hr) (pv 1) (pv 0)))))) (pss_one (ps_raiseW E_NoGuest (hr.mono (by decide)) rfl (takes_of rfl rfl rfl rfl) (pa_cons (pe_tup (pa_cons (pv 1) (pa_cons (pv 2) pa_nil))) pa_nil) (by rfl))) pss_nil)), ?_⟩
    have raised : tRaiseW CG (fun cls d' σ H => E cls d' H) (tCons (tTup (tCons (tVar 1) (tCons (tVar 2) tNil))) tNil) { nx := fun _ H' => Q .non H', rt := Q } [some (.ref d), some (.int x), some (.int y)] H := by
      refine ⟨.int x, rfl, .int y, rfl, (by show 2 ≤ sizeLine; decide), fun t nt => ⟨.ref t, rfl, .inr (.inr ⟨t, x, y, rfl, upd_same, hx, hy⟩), fun d' nd' => ?_⟩⟩
      exact q _ d' t ((same_new nt).trans (same_new nd')) upd_same (same_new nd' _ _ upd_same)
    refine ⟨.int y, rfl, _, _, rfl, rfl, _, rfl, ?_⟩
    by_cases hneg : y < 0
    · rw [decide_eq_true hneg]
      exact iteT raised
    · rw [decide_eq_false hneg]
      refine iteF ⟨.int x, rfl, .ref d, rfl, d, _, rfl, DGet.k (k := Sum.inl x) hd, _, rfl, ?_⟩
      have hin := hb.resolve_left hneg
      rw [pks_get hn hin]
      exact iteT raised
end
end El
namespace El
open PySem PySem.Spec PyProof.Rows L2
section
variable {P : Program} {w : World} {K : PySem.W.Frag} {mg : Str → Option Value} {base : Heap}
abbrev s_check_arrangement : Stmt := topS 11
abbrev N_check_arrangement : List Str := ["patience_of", "arrangement", "seen", "number", "room", "age"]
abbrev P_check_arrangement : List Str := ["patience_of", "arrangement"]
theorem sc_check_arrangement : FnScope N_check_arrangement P_check_arrangement (defScope s_check_arrangement) := ⟨rfl, rfl, rfl, by decide +kernel, rfl, by decide +kernel, by decide +kernel⟩
def sp_check_arrangement : Sp := fun vs H Q _ => ∃ (d o : Addr) (ts : List Addr) (rs : List (List Int)) (gs : List (Int × Int)), vs = [.ref d, .ref o] ∧ H d = some (.dK (pks gs)) ∧ RdAt H o ts rs ∧ rs.flatten.Perm (gs.map (·.1)) ∧ (gs.map (·.1)).Nodup ∧ gs.length ≤ 1000 ∧
  ∀ H', Same H H' → Q .non H'
theorem ok_check_arrangement (A : At K mg "check_arrangement" P_check_arrangement s_check_arrangement) (B : Bi mg) : Df P w K mg base 1 "check_arrangement" P_check_arrangement s_check_arrangement sp_check_arrangement := by
  refine A.df fun f fd F => F.ok sc_check_arrangement (fun vs H Q E h => ?_) (fun cdv AA outer s H vs Q E hr h => ?_)
  · obtain ⟨_, _, _, _, _, rfl, _⟩ := h
    rfl
  · obtain ⟨d, o, ts, rs, gs, rfl, hd, hR, hp, hn, hl, q⟩ := h
    have nd := sc_check_arrangement.nd
    refine ⟨_, (pss_cons (ps_set (i := 2) nd rfl (.inl rfl) (pe_callTy0 cr_set0 (by rfl) B.set_ (by decide +kernel)))
    (pss_cons (ps_for PassesOwn.never rfl (pi_enum (by rfl) B.enumerate (pa_cons (pv 1) pa_nil)) (pg_tup (by rfl) (pgs_cons (pg_name (i := 3) nd rfl (.inl rfl)) (pgs_cons (pg_name (i := 4) nd rfl (.inl rfl)) pgs_nil))) (pss_one (ps_for PassesOwn.never rfl (pi_list (pv 4)) (pg_name (i := 5) nd rfl (.inl rfl)) (pss_cons (ps_if (PW.pt (pw_or (pt_cmp (pc_dnotin (hu_of hr) (pv 5) (pv 0))) (pw_or1 (pt_cmpR or_sin (pv 5) (pv 2) (by rfl))))) (pss_one ps_never) pss_nil) (pss_one (ps_expr (pe_sadd (pv 2) (pa_cons (pv 5) pa_nil))))))))
    (pss_one (ps_if (pt_cmpR op_lt (pe_callB call_lenSI (by rfl) B.len PySem.boot_len (pa_cons (pv 2) pa_nil)) (pe_callB call_lenD (by rfl) B.len PySem.boot_len (pa_cons (pv 0) pa_nil)) (nomark _)) (pss_one ps_never) pss_nil)))), ?_⟩
    have hpl : rs.flatten.length = gs.length := by rw [hp.length_eq, List.length_map]
    have hfn : rs.flatten.Nodup := (hp.nodup_iff).mpr hn
    -- seen
    refine ⟨rfl, fun p np => ?_⟩
    refine ⟨.ref o, rfl, o, ts.map V.ref, rfl, (hR.same (same_new np)).seq, ?_⟩
    refine for_it (walk_enum (xs := ts.map V.ref)) (fun i σ H2 => ∃ y3 y4 y5 S, σ = [some (.ref d), some (.ref o), some (.ref p), y3, y4, y5] ∧ Same H H2 ∧ H2 p = some (SetO w p S (rs.take i).flatten.length) ∧ ∀ k, S k = decide (k ∈ (rs.take i).flatten))
      ⟨none, none, none, fun _ => false, rfl, same_new np, upd_same, fun k => (decide_eq_false (List.not_mem_nil)).symm⟩ (fun i σ H2 _ hW => ?_) (fun i x σ H2 H3 hi hW hY => ?_) (fun σ H2 hW => ?_)
    · obtain ⟨_, _, _, _, _, sm, _⟩ := hW
      exact (hR.same sm).seq
    · obtain ⟨y3, y4, y5, S, rfl, sm, hS, hm⟩ := hW
      obtain ⟨T, x1, x2, rfl, nT, rfl, f1, f2⟩ := hY
      obtain rfl : V.int ↑i = x1 := Option.some.inj f1
      obtain ⟨t, r, rfl, _, er, et⟩ := (hR.same sm).get f2
      have s3 : Same H2 (upd H2 T (.tup [.int i, .ref t])) := same_new nT
      refine ⟨T, [.int i, .ref t], rfl, SqT.of upd_same, rfl, .int i, [.ref t], rfl, .ref t, [], rfl, rfl, ?_⟩
      have hp3 := s3 _ _ hS
      have sm3 : Same H (upd H2 T (.tup [.int i, .ref t])) := sm.trans s3
      have et3 := s3 _ _ et
      revert hp3 sm3 et3
      generalize upd H2 T (.tup [.int i, .ref t]) = H3
      intro hp3 sm3 et3
      refine ⟨.ref t, rfl, t, rfl, ⟨_, SqL.of et3⟩, ?_⟩
      have htp : t ≠ p := fun z => by
        rw [z, hp3] at et3
        cases et3
      refine for_it (walk_list (xs := r.map V.int)) (fun j σ H4 => ∃ y5 S, σ = [some (.ref d), some (.ref o), some (.ref p), some (.int i), some (.ref t), y5] ∧ Kp (fun b => b ≠ p) H3 H4 ∧ H4 p = some (SetO w p S ((rs.take i).flatten ++ r.take j).length) ∧ ∀ k, S k = decide (k ∈ (rs.take i).flatten ++ r.take j))
        ⟨_, S, rfl, Kp.refl, by rw [List.take_zero, List.append_nil]; exact hp3, fun k => by rw [List.take_zero, List.append_nil]; exact hm k⟩ (fun j σ H4 _ hW => ?_) (fun j x σ H4 H5 hj hW hY => ?_) (fun σ H4 hW => ?_)
      · obtain ⟨_, _, _, kp, _⟩ := hW
        exact SqL.of (kp _ _ htp et3)
      · obtain ⟨y5, S, rfl, kp, hS4, hm4⟩ := hW
        obtain ⟨rfl, hx⟩ := hY
        obtain ⟨a, ea, rfl⟩ := ints_at hx
        have hdp : d ≠ p := fun z => by
          rw [z, np] at hd
          cases hd
        have hd4 := kp _ _ hdp (sm3 _ _ hd)
        have ha : a ∈ gs.map (·.1) := hp.mem_iff.mp (flat_mem er ea)
        have no := flat_split hfn er ea
        refine ⟨.int a, rfl, .ref d, rfl, d, _, rfl, dget_pof hd4 hn ha, _, rfl, ?_⟩
        refine iteF ⟨.int a, rfl, .ref p, rfl, a, p, S, _, rfl, rfl, hS4, _, rfl, ?_⟩
        rw [hm4 a, decide_eq_false no]
        refine iteF ⟨.ref p, rfl, ⟨p, S, _, rfl, hS4⟩, .int a, rfl, p, a, S, _, rfl, rfl, hS4, ?_, ?_⟩
        · have hlt : ((rs.take i).flatten ++ r.take j).length ≤ 1000 := by
            have h1 : (rs.take i).flatten.length + r.length ≤ rs.flatten.length := by
              have := congrArg List.length (congrArg List.flatten (List.take_append_drop (i + 1) rs))
              rw [List.flatten_append, List.length_append, take_snoc_flat er, List.length_append] at this
              omega
            rw [List.length_append, List.length_take]
            omega
          exact Nat.lt_of_le_of_lt (Nat.succ_le_succ hlt) (by decide)
        · have hSa : S a = false := by
            rw [hm4 a]
            exact decide_eq_false no
          have hne : ((rs.take i).flatten ++ r.take (j + 1)).length = ((rs.take i).flatten ++ r.take j).length + 1 := by
            rw [take_snoc ea, ← List.append_assoc, List.length_append (as := _ ++ _)]
            rfl
          refine ⟨some (.int a), fun z => S z || decide (z = a), rfl, Kp.mut kp (fun z => z rfl), ?_, ?_⟩
          · rw [hne]
            refine Eq.trans upd_same ?_
            rw [hSa]
            rfl
          · intro k
            show (S k || decide (k = a)) = _
            rw [hm4 k, take_snoc ea, ← List.append_assoc]
            by_cases h1 : k ∈ (rs.take i).flatten ++ r.take j
            · rw [decide_eq_true h1, decide_eq_true (List.mem_append_left _ h1)]
              rfl
            · rw [decide_eq_false h1, Bool.false_or]
              by_cases h2 : k = a
              · rw [decide_eq_true h2, decide_eq_true (List.mem_append_right _ (List.mem_singleton.mpr h2))]
              · rw [decide_eq_false h2, decide_eq_false fun z => (List.mem_append.mp z).elim h1 fun z => h2 (List.mem_singleton.mp z)]
      · obtain ⟨y5, S, rfl, kp, hS4, hm4⟩ := hW
        rw [List.length_map, take_full, ← take_snoc_flat er] at hS4
        refine ⟨_, _, _, S, rfl, fun b x e => kp b x (fun z => by rw [z, np] at e; cases e) (sm3 b x e), hS4, fun k => ?_⟩
        rw [hm4 k, List.length_map, take_full, ← take_snoc_flat er]
    · obtain ⟨y3, y4, y5, S, rfl, sm, hS, hm⟩ := hW
      rw [List.length_map, hR.len, take_full] at hS
      refine ⟨.ref p, rfl, p, S, _, rfl, hS, by omega, .ref d, rfl, d, _, rfl, sm _ _ hd, _, _, rfl, rfl, _, rfl, ?_⟩
      rw [pks_len, hpl, decide_eq_false (by omega)]
      exact iteF (q _ sm)
end
end El
namespace El
open PySem PySem.Spec PyProof.Rows L2
section
variable {P : Program} {w : World} {K : PySem.W.Frag} {mg : Str → Option Value} {base : Heap}
abbrev s_eldest_upset : Stmt := topS 17
abbrev N_eldest_upset : List Str := ["patience_of", "room", "elders", "age"]
abbrev P_eldest_upset : List Str := ["patience_of", "room"]
theorem sc_eldest_upset : FnScope N_eldest_upset P_eldest_upset (defScope s_eldest_upset) := ⟨rfl, rfl, rfl, by decide +kernel, rfl, by decide +kernel, by decide +kernel⟩
/-- the value told -/
def upV : Option Int → V
  | some a => .int a
  | none => .non
def sp_eldest_upset : Sp := fun vs H Q _ => ∃ (d o : Addr) (ns : List Int) (gs : List (Int × Int)), vs = [.ref d, .ref o] ∧ H d = some (.dK (pks gs)) ∧ H o = some (.lst (ns.map V.int)) ∧ (∀ a ∈ ns, a ∈ gs.map (·.1)) ∧ (gs.map (·.1)).Nodup ∧ ns.length ≤ 1000 ∧
  ∀ H', Same H H' → Q (upV (eldUp gs ns)) H'
theorem ok_eldest_upset (A : At K mg "eldest_upset" P_eldest_upset s_eldest_upset) (B : Bi mg) : Df P w K mg base 1 "eldest_upset" P_eldest_upset s_eldest_upset sp_eldest_upset := by
  refine A.df fun f fd F => F.ok sc_eldest_upset (fun vs H Q E h => ?_) (fun cdv AA outer s H vs Q E hr h => ?_)
  · obtain ⟨_, _, _, _, rfl, _⟩ := h
    rfl
  · obtain ⟨d, o, ns, gs, rfl, hd, ho, hm, hn, hl, q⟩ := h
    have nd := sc_eldest_upset.nd
    refine ⟨_, (pss_cons (ps_for PassesOwn.never rfl (pi_enum (by rfl) B.enumerate (pa_cons (pe_callBK (cr_sortedRev (b := true)) (by rfl) B.sorted (by decide +kernel) (pa_cons (pv 1) pa_nil) (pk_cons pe_bl pk_nil)) pa_nil)) (pg_tup (by rfl) (pgs_cons (pg_name (i := 2) nd rfl (.inl rfl)) (pgs_cons (pg_name (i := 3) nd rfl (.inl rfl)) pgs_nil))) (pss_one (ps_if (pt_cmpR op_gt (pv 2) (pe_dget (hu_of hr) (pv 0) (pv 3) (fun _ _ => rfl)) (nomark _)) (pss_one (ps_ret (pv 3))) pss_nil)))
    (pss_one (ps_ret pe_non))), ?_⟩
    refine ⟨.ref o, rfl, o, ns, rfl, rfl, SqL.of ho, fun ms p hp hs np => ?_⟩
    have hms : ms = down ns := down_is hp hs
    subst hms
    refine ⟨p, _, rfl, SqL.of upd_same, ?_⟩
    have sm1 : Same H (upd H p (.lst ((down ns).map V.int))) := same_new np
    have ep : upd H p (.lst ((down ns).map V.int)) p = some (.lst ((down ns).map V.int)) := upd_same
    revert sm1 ep
    generalize upd H p (.lst ((down ns).map V.int)) = H1
    intro sm1 ep
    refine for_it (walk_enum (xs := (down ns).map V.int)) (fun i σ H2 => ∃ y2 y3, σ = [some (.ref d), some (.ref o), y2, y3] ∧ Same H1 H2 ∧ ∀ (j : Nat) (b : Int), j < i → (down ns)[j]? = some b → (j : Int) ≤ pof gs b)
      ⟨none, none, rfl, Same.refl _, fun j b h => absurd h (Nat.not_lt_zero _)⟩ (fun i σ H2 _ hW => ?_) (fun i x σ H2 H3 hi hW hY => ?_) (fun σ H2 hW => ?_)
    · obtain ⟨_, _, _, sm, _⟩ := hW
      exact SqL.of (sm _ _ ep)
    · obtain ⟨y2, y3, rfl, sm, hb⟩ := hW
      obtain ⟨T, x1, x2, rfl, nT, rfl, f1, f2⟩ := hY
      obtain rfl : V.int ↑i = x1 := Option.some.inj f1
      obtain ⟨a, ea, rfl⟩ := ints_at f2
      have s3 : Same H2 (upd H2 T (.tup [.int i, .int a])) := same_new nT
      refine ⟨T, [.int i, .int a], rfl, SqT.of upd_same, rfl, .int i, [.int a], rfl, .int a, [], rfl, rfl, ?_⟩
      have sm3 : Same H (upd H2 T (.tup [.int i, .int a])) := sm1.trans (sm.trans s3)
      have ha : a ∈ gs.map (·.1) := hm a ((down_perm ns).mem_iff.mp (List.mem_of_getElem? ea))
      refine ⟨.int i, rfl, .ref d, rfl, .int a, rfl, d, _, rfl, dget_pof (sm3 _ _ hd) hn ha, _, _, rfl, rfl, _, rfl, ite2 (fun e => ?_) (fun e => ?_)⟩
      · have e := of_decide_eq_true e
        have hu : eldUp gs ns = some a := upIn_at ea (fun j b hj eb => by have := hb j b hj eb; omega) (by omega)
        have z := q _ sm3
        rw [hu] at z
        exact ⟨.int a, rfl, z⟩
      · have e : ¬ (pof gs a < (i : Int)) := fun z => e (decide_eq_true z)
        refine ⟨_, _, rfl, sm.trans s3, fun j b hj eb => ?_⟩
        by_cases h : j < i
        · exact hb j b h eb
        · have : j = i := by omega
          subst this
          obtain rfl : a = b := Option.some.inj (ea.symm.trans eb)
          omega
    · obtain ⟨y2, y3, rfl, sm, hb⟩ := hW
      have hu : eldUp gs ns = none := upIn_none fun i a e => by
        have := hb i a (by rw [List.length_map]; exact at_lt e) e
        omega
      have z := q _ (sm1.trans sm)
      rw [hu] at z
      exact z
end
end El
namespace El
open PySem PySem.Spec PyProof.Rows L2
theorem iteFx {c : Bool} {A B : Prop} (hc : c = false) (h : B) : if c = true then A else B := by
  rw [hc]
  exact iteF h
theorem iteTx {c : Bool} {A B : Prop} (hc : c = true) (h : A) : if c = true then A else B := by
  rw [hc]
  exact iteT h
section
variable {P : Program} {w : World} {K : PySem.W.Frag} {mg : Str → Option Value} {base : Heap}
abbrev s_upset : Stmt := topS 16
abbrev N_upset : List Str := ["guests", "arrangement", "patience_of", "number", "room", "age"]
abbrev P_upset : List Str := ["guests", "arrangement"]
theorem sc_upset : FnScope N_upset P_upset (defScope s_upset) := ⟨rfl, rfl, rfl, by decide +kernel, rfl, by decide +kernel, by decide +kernel⟩
def sp_upset : Sp := fun vs H Q _ => ∃ (BB : Addr → Prop) (a o : Addr) (ts us : List Addr) (gs : List (Int × Int)) (rs : List (List Int)), vs = [.ref a, .ref o] ∧ GsAt H BB a ts gs ∧ Fit gs ∧ gs.length ≤ 1000 ∧ RdAt H o us rs ∧ rs.flatten.Perm (gs.map (·.1)) ∧
  (upsetOf gs rs 0 = none → ∀ H', Same H H' → Q .non H') ∧ (∀ i x, upsetOf gs rs 0 = some (i, x) → ∀ H' t, Same H H' → H t = none → H' t = some (.tup [.int (i : Nat), .int x]) → Q (.ref t) H')
theorem ok_upset (A : At K mg "upset" P_upset s_upset) (B : Bi mg) (D_patience_by_age : Df P w K mg base 1 "patience_by_age" P_patience_by_age s_patience_by_age sp_patience_by_age)
    (D_check_arrangement : Df P w K mg base 1 "check_arrangement" P_check_arrangement s_check_arrangement sp_check_arrangement) (D_eldest_upset : Df P w K mg base 1 "eldest_upset" P_eldest_upset s_eldest_upset sp_eldest_upset) : Df P w K mg base 2 "upset" P_upset s_upset sp_upset := by
  refine A.df fun f fd F => F.ok sc_upset (fun vs H Q E h => ?_) (fun cdv AA outer s H vs Q E hr h => ?_)
  · obtain ⟨_, _, _, _, _, _, _, rfl, _⟩ := h
    rfl
  · obtain ⟨BB, a, o, ts, us, gs, rs, rfl, hG, hF, hl, hR, hp, q1, q2⟩ := h
    have nd := sc_upset.nd
    refine ⟨_, (pss_cons (ps_set (i := 2) nd rfl (.inl rfl) (pe_df D_patience_by_age (hr.mono (by decide)) (by rfl) (pa_cons (pv 0) pa_nil)))
    (pss_cons (ps_expr (pe_df D_check_arrangement (hr.mono (by decide)) (by rfl) (pa_cons (pv 2) (pa_cons (pv 1) pa_nil))))
    (pss_cons (ps_for PassesOwn.never rfl (pi_enum (by rfl) B.enumerate (pa_cons (pv 1) pa_nil)) (pg_tup (by rfl) (pgs_cons (pg_name (i := 3) nd rfl (.inl rfl)) (pgs_cons (pg_name (i := 4) nd rfl (.inl rfl)) pgs_nil))) (pss_cons (ps_set (i := 5) nd rfl (.inl rfl) (pe_df D_eldest_upset (hr.mono (by decide)) (by rfl) (pa_cons (pv 2) (pa_cons (pv 4) pa_nil)))) (pss_one (ps_if (pt_cmpR op_notN (pv 5) pe_non (nomark _)) (pss_one (ps_ret (pe_tup (pa_cons (pv 3) (pa_cons (pv 5) pa_nil))))) pss_nil))))
    (pss_one (ps_ret pe_non))))), ?_⟩
    refine ⟨.ref a, rfl, BB, a, ts, gs, rfl, hG, hF, hl, fun H1 d s1 n1 e1 => ?_⟩
    refine ⟨.ref d, rfl, .ref o, rfl, d, o, us, rs, gs, rfl, e1, hR.same s1, hp, hF.nd, hl, fun H2 s2 => ?_⟩
    have s02 := s1.trans s2
    refine ⟨.ref o, rfl, o, us.map V.ref, rfl, (hR.same s02).seq, ?_⟩
    refine for_it (walk_enum (xs := us.map V.ref)) (fun i σ H3 => ∃ y3 y4 y5, σ = [some (.ref a), some (.ref o), some (.ref d), y3, y4, y5] ∧ Same H2 H3 ∧ ∀ (j : Nat) (s : List Int), j < i → rs[j]? = some s → eldUp gs s = none)
      ⟨none, none, none, rfl, Same.refl _, fun j s h => absurd h (Nat.not_lt_zero _)⟩ (fun i σ H3 _ hW => ?_) (fun i x σ H3 H4 hi hW hY => ?_) (fun σ H3 hW => ?_)
    · obtain ⟨_, _, _, _, sm, _⟩ := hW
      exact (hR.same (s02.trans sm)).seq
    · obtain ⟨y3, y4, y5, rfl, sm, hb⟩ := hW
      obtain ⟨T, x1, x2, rfl, nT, rfl, f1, f2⟩ := hY
      obtain rfl : V.int ↑i = x1 := Option.some.inj f1
      obtain ⟨t, r, rfl, _, er, et⟩ := (hR.same (s02.trans sm)).get f2
      have s3 : Same H3 (upd H3 T (.tup [.int i, .ref t])) := same_new nT
      refine ⟨T, [.int i, .ref t], rfl, SqT.of upd_same, rfl, .int i, [.ref t], rfl, .ref t, [], rfl, rfl, ?_⟩
      have sm3 : Same H (upd H3 T (.tup [.int i, .ref t])) := s02.trans (sm.trans s3)
      have hd3 := (sm.trans s3) _ _ (s2 _ _ e1)
      refine ⟨.ref d, rfl, .ref t, rfl, d, t, r, gs, rfl, hd3, s3 _ _ et, fun b hb => hp.mem_iff.mp (List.mem_flatten.mpr ⟨r, List.mem_of_getElem? er, hb⟩), hF.nd, ?_, fun H5 s5 => ?_⟩
      · have h1 := room_le_flat rs r (List.mem_of_getElem? er)
        have h2 := hp.length_eq
        rw [List.length_map] at h2
        omega
      · have sm5 : Same H H5 := sm3.trans s5
        cases hu : eldUp gs r with
        | none =>
          refine ⟨_, rfl, rfl, _, rfl, iteFx (by show (!decide (V.non = V.non)) = false; simp) ?_⟩
          refine ⟨_, _, _, rfl, sm.trans (s3.trans s5), fun j s hj es => ?_⟩
          by_cases h : j < i
          · exact hb j s h es
          · have : j = i := by omega
            subst this
            obtain rfl : r = s := Option.some.inj (er.symm.trans es)
            exact hu
        | some b =>
          refine ⟨_, rfl, rfl, _, rfl, iteTx (by show (!decide (V.int b = V.non)) = true; simp) ?_⟩
          refine ⟨.int i, rfl, .int b, rfl, (by show 2 ≤ sizeLine; decide), fun p np => ?_⟩
          have z := upsetOf_at (k := 0) er hb hu
          exact q2 i b z _ p (sm5.trans (same_new np)) (sm5.free np) upd_same
    · obtain ⟨y3, y4, y5, rfl, sm, hb⟩ := hW
      refine q1 (upsetOf_none fun s ms => ?_) _ (s02.trans sm)
      obtain ⟨j, ej⟩ := List.mem_iff_getElem?.mp ms
      refine hb j s ?_ ej
      rw [List.length_map, hR.len]
      exact at_lt ej
end
end El
namespace El
open PySem PySem.Spec PyProof.Rows L2
section
variable {P : Program} {w : World} {K : PySem.W.Frag} {mg : Str → Option Value} {base : Heap}
abbrev s_check_first : Stmt := topS 10
abbrev N_check_first : List Str := ["j"]
abbrev P_check_first : List Str := ["j"]
theorem sc_check_first : FnScope N_check_first P_check_first (defScope s_check_first) := ⟨rfl, rfl, rfl, by decide +kernel, rfl, by decide +kernel, by decide +kernel⟩
def sp_check_first : Sp := fun vs H Q _ => ∃ j : Nat, vs = [.int (j : Int)] ∧ Q .non H
theorem ok_check_first (A : At K mg "check_first" P_check_first s_check_first) : Df P w K mg base 1 "check_first" P_check_first s_check_first sp_check_first := by
  refine A.df fun f fd F => F.ok sc_check_first (fun vs H Q E h => ?_) (fun cdv AA outer s H vs Q E hr h => ?_)
  · obtain ⟨_, rfl, _⟩ := h
    rfl
  · obtain ⟨j, rfl, q⟩ := h
    have nd := sc_check_first.nd
    refine ⟨_, (pss_one (ps_if (pt_cmpR op_lt (pv 0) pe_int (nomark _)) (pss_one ps_never) pss_nil)), ?_⟩
    refine ⟨_, rfl, _, _, rfl, rfl, _, rfl, ?_⟩
    rw [decide_eq_false (by omega)]
    exact iteF q
end
end El
namespace El
open PySem PySem.Spec PyProof.Rows L2
def sp_check_first_b (CS : Addr) : Sp := fun vs H _ E => ∃ j : Int, vs = [.int j] ∧ j.natAbs < 10 ^ 200 ∧ j < 0 ∧ ∀ H' d, Same H H' → H' d = some (.xd [(("what" : Str), .int j)]) → E (.ref CS) (some d) H'
section
variable {P : Program} {w : World} {K : PySem.W.Frag} {mg : Str → Option Value} {base : Heap}
theorem okb_check_first {CS : Addr} (A : At K mg "check_first" P_check_first s_check_first) (E_NoRooms : OwnW P w K mg base "NoRooms" CS) : DfX P w K mg base 3 "check_first" P_check_first s_check_first (sp_check_first_b CS) := by
  refine A.dfx fun f fd F => F.okX sc_check_first (fun vs H Q E h => ?_) (fun cdv AA outer s H vs Q E hr h => ?_)
  · obtain ⟨_, rfl, _⟩ := h
    rfl
  · obtain ⟨j, rfl, hj, hneg, q⟩ := h
    have nd := sc_check_first.nd
    refine ⟨_, (pss_one (ps_if (pt_cmpR op_lt (pv 0) pe_int (nomark _)) (pss_one (ps_raiseW E_NoRooms (hr.mono (by decide)) rfl (takes_of rfl rfl rfl rfl) (pa_cons (pv 0) pa_nil) (by rfl))) pss_nil)), ?_⟩
    refine ⟨_, rfl, _, _, rfl, rfl, _, rfl, iteTx (decide_eq_true hneg) ?_⟩
    exact ⟨_, rfl, .int j, rfl, .inl (.inl ⟨j, rfl, hj⟩), fun d nd => q _ d (same_new nd) upd_same⟩
end
end El
namespace El
open PySem PySem.Spec PyProof.Rows L2
def ArrRef (CR : Addr) (H : Hp) (E : XK) (ages : List Int) (rs : List (List Int)) : Prop :=
  (∃ k, FirstOdd ages rs k ∧ ∀ H' d, Same H H' → H' d = some (.xd [(("what" : Str), .int (k : Nat))]) → E (.ref CR) (some d) H') ∨ (LeftOut ages rs ∧ ∀ H' d, Same H H' → H' d = some (.xd [(("what" : Str), .non)]) → E (.ref CR) (some d) H')
def sp_check_arrangement_b (CR : Addr) : Sp := fun vs H _ E => ∃ (d o : Addr) (ts : List Addr) (rs : List (List Int)) (gs : List (Int × Int)), vs = [.ref d, .ref o] ∧ H d = some (.dK (pks gs)) ∧ RdAt H o ts rs ∧ (gs.map (·.1)).Nodup ∧ gs.length ≤ 1000 ∧ rs.length ≤ 1000 ∧
  ArrRef CR H E (gs.map (·.1)) rs
section
variable {P : Program} {w : World} {K : PySem.W.Frag} {mg : Str → Option Value} {base : Heap}
theorem okb_check_arrangement {CR : Addr} (A : At K mg "check_arrangement" P_check_arrangement s_check_arrangement) (B : Bi mg) (E_NoRoom : OwnW P w K mg base "NoRoom" CR) : DfX P w K mg base 3 "check_arrangement" P_check_arrangement s_check_arrangement (sp_check_arrangement_b CR) := by
  refine A.dfx fun f fd F => F.okX sc_check_arrangement (fun vs H Q E h => ?_) (fun cdv AA outer s H vs Q E hr h => ?_)
  · obtain ⟨_, _, _, _, _, rfl, _⟩ := h
    rfl
  · obtain ⟨d, o, ts, rs, gs, rfl, hd, hR, hn, hl, hrl, q⟩ := h
    have nd := sc_check_arrangement.nd
    refine ⟨_, (pss_cons (ps_set (i := 2) nd rfl (.inl rfl) (pe_callTy0 cr_set0 (by rfl) B.set_ (by decide +kernel)))
    (pss_cons (ps_for (passes_of rfl) rfl (pi_enum (by rfl) B.enumerate (pa_cons (pv 1) pa_nil)) (pg_tup (by rfl) (pgs_cons (pg_name (i := 3) nd rfl (.inl rfl)) (pgs_cons (pg_name (i := 4) nd rfl (.inl rfl)) pgs_nil))) (pss_one (ps_for (passes_of rfl) rfl (pi_list (pv 4)) (pg_name (i := 5) nd rfl (.inl rfl)) (pss_cons (ps_if (PW.pt (pw_or (pt_cmp (pc_dnotin (hu_of hr) (pv 5) (pv 0))) (pw_or1 (pt_cmpR or_sin (pv 5) (pv 2) (by rfl))))) (pss_one (ps_raiseW E_NoRoom (hr.mono (by decide)) rfl (takes_of rfl rfl rfl rfl) (pa_cons (pv 3) pa_nil) (by rfl))) pss_nil) (pss_one (ps_expr (pe_sadd (pv 2) (pa_cons (pv 5) pa_nil))))))))
    (pss_one (ps_if (pt_cmpR op_lt (pe_callB call_lenSI (by rfl) B.len PySem.boot_len (pa_cons (pv 2) pa_nil)) (pe_callB call_lenD (by rfl) B.len PySem.boot_len (pa_cons (pv 0) pa_nil)) (nomark _)) (pss_one (ps_raiseW E_NoRoom (hr.mono (by decide)) rfl (takes_of rfl rfl rfl rfl) (pa_cons pe_non pa_nil) (by rfl))) pss_nil)))), ?_⟩
    refine ⟨rfl, fun p np => ?_⟩
    refine ⟨.ref o, rfl, o, ts.map V.ref, rfl, (hR.same (same_new np)).seq, ?_⟩
    have gl : (gs.map (·.1)).length ≤ 1000 := by
      rw [List.length_map]
      exact hl
    refine for_it (walk_enum (xs := ts.map V.ref)) (fun i σ H2 => ∃ y3 y4 y5 S, σ = [some (.ref d), some (.ref o), some (.ref p), y3, y4, y5] ∧ Same H H2 ∧ H2 p = some (SetO w p S (rs.take i).flatten.length) ∧ (∀ k, S k = decide (k ∈ (rs.take i).flatten)) ∧ Seemly (gs.map (·.1)) (rs.take i).flatten)
      ⟨none, none, none, fun _ => false, rfl, same_new np, upd_same, fun k => (decide_eq_false (List.not_mem_nil)).symm, Seemly.nil _⟩ (fun i σ H2 _ hW => ?_) (fun i x σ H2 H3 hi hW hY => ?_) (fun σ H2 hW => ?_)
    · obtain ⟨_, _, _, _, _, sm, _⟩ := hW
      exact (hR.same sm).seq
    · obtain ⟨y3, y4, y5, S, rfl, sm, hS, hm, hf⟩ := hW
      obtain ⟨T, x1, x2, rfl, nT, rfl, f1, f2⟩ := hY
      obtain rfl : V.int ↑i = x1 := Option.some.inj f1
      obtain ⟨t, r, rfl, _, er, et⟩ := (hR.same sm).get f2
      have s3 : Same H2 (upd H2 T (.tup [.int i, .ref t])) := same_new nT
      refine ⟨T, [.int i, .ref t], rfl, SqT.of upd_same, rfl, .int i, [.ref t], rfl, .ref t, [], rfl, rfl, ?_⟩
      have hp3 := s3 _ _ hS
      have sm3 : Same H (upd H2 T (.tup [.int i, .ref t])) := sm.trans s3
      have et3 := s3 _ _ et
      revert hp3 sm3 et3
      generalize upd H2 T (.tup [.int i, .ref t]) = H3
      intro hp3 sm3 et3
      refine ⟨.ref t, rfl, t, rfl, ⟨_, SqL.of et3⟩, ?_⟩
      have htp : t ≠ p := fun z => by
        rw [z, hp3] at et3
        cases et3
      refine for_it (walk_list (xs := r.map V.int)) (fun j σ H4 => ∃ y5 S, σ = [some (.ref d), some (.ref o), some (.ref p), some (.int i), some (.ref t), y5] ∧ Kp (fun b => b ≠ p) H3 H4 ∧ H4 p = some (SetO w p S ((rs.take i).flatten ++ r.take j).length) ∧ (∀ k, S k = decide (k ∈ (rs.take i).flatten ++ r.take j)) ∧ Seemly (gs.map (·.1)) ((rs.take i).flatten ++ r.take j))
        ⟨_, S, rfl, Kp.refl, by rw [List.take_zero, List.append_nil]; exact hp3, fun k => by rw [List.take_zero, List.append_nil]; exact hm k, by rw [List.take_zero, List.append_nil]; exact hf⟩ (fun j σ H4 _ hW => ?_) (fun j x σ H4 H5 hj hW hY => ?_) (fun σ H4 hW => ?_)
      · obtain ⟨_, _, _, kp, _⟩ := hW
        exact SqL.of (kp _ _ htp et3)
      · obtain ⟨y5, S, rfl, kp, hS4, hm4, hf4⟩ := hW
        obtain ⟨rfl, hx⟩ := hY
        obtain ⟨a, ea, rfl⟩ := ints_at hx
        have hdp : d ≠ p := fun z => by
          rw [z, np] at hd
          cases hd
        have hd4 := kp _ _ hdp (sm3 _ _ hd)
        have s4 : Same H H5 := fun b u e => kp b u (fun z => by rw [z, np] at e; cases e) (sm3 b u e)
        have raised : (a ∉ gs.map (·.1) ∨ a ∈ (rs.take i).flatten ++ r.take j) → ∀ d', H5 d' = none → E (.ref CR) (some d') (upd H5 d' (.xd [(("what" : Str), .int (i : Nat))])) := fun h d' nd' => by
          rcases q with ⟨k, ⟨r', j', a', er', ea', hf', hb'⟩, q⟩ | ⟨⟨hall, _⟩, _⟩
          · obtain ⟨rfl, _⟩ := odd_ahead er' ea' hb' hf' er ea hf4 h
            exact q _ d' (s4.trans (same_new nd')) upd_same
          · exact (odd_not ⟨r, j, a, er, ea, hf4, h⟩ hall).elim
        have hi1 : i ≤ 1000 := by
          have := at_lt er
          omega
        refine ⟨.int a, rfl, .ref d, rfl, d, _, rfl, DGet.k (k := Sum.inl a) hd4, _, rfl, ?_⟩
        by_cases ha : a ∈ gs.map (·.1)
        · rw [pks_get hn ha]
          refine iteF ⟨.int a, rfl, .ref p, rfl, a, p, S, _, rfl, rfl, hS4, _, rfl, ?_⟩
          by_cases no : a ∈ (rs.take i).flatten ++ r.take j
          · rw [hm4 a, decide_eq_true no]
            exact iteT ⟨.int i, rfl, .int i, rfl, .inl (.inl ⟨i, rfl, small_nat hi1⟩), raised (.inr no)⟩
          · rw [hm4 a, decide_eq_false no]
            refine iteF ⟨.ref p, rfl, ⟨p, S, _, rfl, hS4⟩, .int a, rfl, p, a, S, _, rfl, rfl, hS4, ?_, ?_⟩
            · have hlt := hf4.len
              exact Nat.lt_of_le_of_lt (Nat.succ_le_succ (Nat.le_trans hlt gl)) (by decide)
            · have hSa : S a = false := by
                rw [hm4 a]
                exact decide_eq_false no
              have hne : ((rs.take i).flatten ++ r.take (j + 1)).length = ((rs.take i).flatten ++ r.take j).length + 1 := by
                rw [take_snoc ea, ← List.append_assoc, List.length_append (as := _ ++ _)]
                rfl
              refine ⟨some (.int a), fun z => S z || decide (z = a), rfl, Kp.mut kp (fun z => z rfl), ?_, ?_, ?_⟩
              · rw [hne]
                refine Eq.trans upd_same ?_
                rw [hSa]
                rfl
              · intro k
                show (S k || decide (k = a)) = _
                rw [hm4 k, take_snoc ea, ← List.append_assoc]
                by_cases h1 : k ∈ (rs.take i).flatten ++ r.take j
                · rw [decide_eq_true h1, decide_eq_true (List.mem_append_left _ h1)]
                  rfl
                · rw [decide_eq_false h1, Bool.false_or]
                  by_cases h2 : k = a
                  · rw [decide_eq_true h2, decide_eq_true (List.mem_append_right _ (List.mem_singleton.mpr h2))]
                  · rw [decide_eq_false h2, decide_eq_false fun z => (List.mem_append.mp z).elim h1 fun z => h2 (List.mem_singleton.mp z)]
              · rw [take_snoc ea, ← List.append_assoc]
                exact hf4.snoc ha no
        · rw [pks_none ha]
          exact iteT ⟨.int i, rfl, .int i, rfl, .inl (.inl ⟨i, rfl, small_nat hi1⟩), raised (.inl ha)⟩
      · obtain ⟨y5, S, rfl, kp, hS4, hm4, hf4⟩ := hW
        rw [List.length_map, take_full, ← take_snoc_flat er] at hS4
        rw [List.length_map, take_full, ← take_snoc_flat er] at hf4
        refine ⟨_, _, _, S, rfl, fun b x e => kp b x (fun z => by rw [z, np] at e; cases e) (sm3 b x e), hS4, fun k => ?_, hf4⟩
        rw [hm4 k, List.length_map, take_full, ← take_snoc_flat er]
    · obtain ⟨y3, y4, y5, S, rfl, sm, hS, hm, hf⟩ := hW
      rw [List.length_map, hR.len, take_full] at hS hf
      have hfl := hf.len
      refine ⟨.ref p, rfl, p, S, _, rfl, hS, by omega, .ref d, rfl, d, _, rfl, sm _ _ hd, _, _, rfl, rfl, _, rfl, ?_⟩
      rcases q with ⟨k, hk, _⟩ | ⟨⟨_, hlt⟩, q⟩
      · exact (odd_not hk hf).elim
      · rw [pks_len, decide_eq_true (by rw [List.length_map] at hlt; omega)]
        exact iteT ⟨.non, rfl, .inr (.inl rfl), fun d' nd' => q _ d' (sm.trans (same_new nd')) upd_same⟩
end
end El
namespace El
open PySem PySem.Spec PyProof.Rows L2
section
variable {P : Program} {w : World} {K : PySem.W.Frag} {mg : Str → Option Value} {base : Heap}
abbrev s_first_borne : Stmt := topS 14
abbrev N_first_borne : List Str := ["filled", "patience", "number", "room"]
abbrev P_first_borne : List Str := ["filled", "patience"]
theorem sc_first_borne : FnScope N_first_borne P_first_borne (defScope s_first_borne) := ⟨rfl, rfl, rfl, by decide +kernel, rfl, by decide +kernel, by decide +kernel⟩
def sp_first_borne : Sp := fun vs H Q _ => ∃ (B : Addr → Prop) (o : Addr) (ts : List Addr) (rs : List (List Int)) (p : Int), vs = [.ref o, .int p] ∧ RmsAt H B o ts rs ∧ rs.length ≤ 1000 ∧
  ∀ H', Same H H' → Q (.int (firstB rs p)) H'
theorem ok_first_borne (A : At K mg "first_borne" P_first_borne s_first_borne) (B : Bi mg) : Df P w K mg base 1 "first_borne" P_first_borne s_first_borne sp_first_borne := by
  refine A.df fun f fd F => F.ok sc_first_borne (fun vs H Q E h => ?_) (fun cdv AA outer s H vs Q E hr h => ?_)
  · obtain ⟨_, _, _, _, _, rfl, _⟩ := h
    rfl
  · obtain ⟨BB, o, ts, rs, p, rfl, hR, hl, q⟩ := h
    have nd := sc_first_borne.nd
    refine ⟨_, (pss_cons (ps_for PassesOwn.never rfl (pi_enum (by rfl) B.enumerate (pa_cons (pv 0) pa_nil)) (pg_tup (by rfl) (pgs_cons (pg_name (i := 2) nd rfl (.inl rfl)) (pgs_cons (pg_name (i := 3) nd rfl (.inl rfl)) pgs_nil))) (pss_one (ps_if (pt_cmpR op_le (pe_callB call_len_seq (by rfl) B.len PySem.boot_len (pa_cons (pv 3) pa_nil)) (pv 1) (nomark _)) (pss_one (ps_ret (pv 2))) pss_nil)))
    (pss_one (ps_ret (pe_callB call_len_seq (by rfl) B.len PySem.boot_len (pa_cons (pv 0) pa_nil))))), ?_⟩
    refine ⟨.ref o, rfl, o, ts.map V.ref, rfl, hR.seq, ?_⟩
    refine for_it (walk_enum (xs := ts.map V.ref)) (fun i σ H2 => ∃ y2 y3, σ = [some (.ref o), some (.int p), y2, y3] ∧ Same H H2 ∧ ∀ j r, j < i → rs[j]? = some r → p < (r.length : Int)) ⟨none, none, rfl, Same.refl _, fun j r h => absurd h (Nat.not_lt_zero _)⟩ (fun i σ H2 _ hW => ?_) (fun i x σ H2 H3 hi hW hY => ?_) (fun σ H2 hW => ?_)
    · obtain ⟨_, _, _, sm, _⟩ := hW
      exact (hR.same sm).seq
    · obtain ⟨y2, y3, rfl, sm, hp⟩ := hW
      obtain ⟨T, x1, x2, rfl, nT, rfl, f1, f2⟩ := hY
      obtain rfl : V.int ↑i = x1 := Option.some.inj f1
      obtain ⟨t, r, rfl, _, er, et⟩ := (hR.same sm).get f2
      have s3 : Same H2 (upd H2 T (.tup [.int i, .ref t])) := same_new nT
      refine ⟨T, [.int i, .ref t], rfl, SqT.of upd_same, rfl, .int i, [.ref t], rfl, .ref t, [], rfl, rfl, ?_⟩
      refine ⟨.ref t, rfl, t, _, rfl, .inl (SqL.of (s3 _ _ et)), .int p, rfl, _, _, rfl, rfl, _, rfl, ite2 (fun e => ?_) (fun e => ?_)⟩
      · have e := of_decide_eq_true e
        rw [List.length_map] at e
        have hb : firstB rs p = i := firstB_is rs p i (Nat.le_of_lt (at_lt er)) hp fun r' e' => by
          obtain rfl : r = r' := Option.some.inj (er.symm.trans e')
          exact e
        refine ⟨.int i, rfl, ?_⟩
        have q' := q (upd H2 T (.tup [.int i, .ref t])) (sm.trans s3)
        rw [hb] at q'
        exact q'
      · have e : ¬ (((r.map V.int).length : Int) ≤ p) := fun z => e (decide_eq_true z)
        rw [List.length_map] at e
        refine ⟨some (.int i), some (.ref t), rfl, sm.trans s3, fun j r' hj e' => ?_⟩
        by_cases hji : j < i
        · exact hp j r' hji e'
        · have : j = i := by omega
          subst this
          obtain rfl : r = r' := Option.some.inj (er.symm.trans e')
          omega
    · obtain ⟨y2, y3, rfl, sm, hp⟩ := hW
      have hn : (ts.map V.ref).length = rs.length := by rw [List.length_map, hR.len]
      rw [hn] at hp
      have hb : firstB rs p = rs.length := firstB_is rs p _ (Nat.le_refl _) hp fun r' e' => absurd (at_lt e') (Nat.lt_irrefl _)
      refine ⟨.ref o, rfl, o, _, rfl, .inl (hR.same sm).seq, ?_⟩
      have q' := q H2 sm
      rw [hb, ← hn] at q'
      exact q'
end
end El
namespace El
open PySem PySem.Spec PyProof.Rows L2
section
variable {P : Program} {w : World} {K : PySem.W.Frag} {mg : Str → Option Value} {base : Heap}
abbrev s_rooms : Stmt := topS 13
abbrev N_rooms : List Str := ["guests", "patience_of", "told", "age", "number"]
abbrev P_rooms : List Str := ["guests"]
theorem sc_rooms : FnScope N_rooms P_rooms (defScope s_rooms) := ⟨rfl, rfl, rfl, by decide +kernel, rfl, by decide +kernel, by decide +kernel⟩
def sp_rooms : Sp := fun vs H Q _ => ∃ (B : Addr → Prop) (a : Addr) (ts : List Addr) (gs : List (Int × Int)), vs = [.ref a] ∧ GsAt H B a ts gs ∧ Fit gs ∧ gs.length ≤ 1000 ∧
  ∀ H' o us, Same H H' → RmsAt H' (fun b => H b = none) o us (settle gs) → Q (.ref o) H'
theorem ok_rooms (A : At K mg "rooms" P_rooms s_rooms) (B : Bi mg) (D_patience_by_age : Df P w K mg base 1 "patience_by_age" P_patience_by_age s_patience_by_age sp_patience_by_age)
    (D_first_borne : Df P w K mg base 1 "first_borne" P_first_borne s_first_borne sp_first_borne) : Df P w K mg base 2 "rooms" P_rooms s_rooms sp_rooms := by
  refine A.df fun f fd F => F.ok sc_rooms (fun vs H Q E h => ?_) (fun cdv AA outer s H vs Q E hr h => ?_)
  · obtain ⟨_, a, _, _, rfl, _⟩ := h
    rfl
  · obtain ⟨BB, a, ts, gs, rfl, hG, hF, hl, q⟩ := h
    have nd := sc_rooms.nd
    refine ⟨_, (pss_cons (ps_set (i := 1) nd rfl (.inl rfl) (pe_df D_patience_by_age (hr.mono (by decide)) (by rfl) (pa_cons (pv 0) pa_nil)))
    (pss_cons (ps_set (i := 2) nd rfl (.inl rfl) (pe_lst pa_nil))
    (pss_cons (ps_for PassesOwn.never rfl (pi_list (pe_callBK (cr_sortedRevD (b := true) rfl) (by rfl) B.sorted (by decide +kernel) (pa_cons (pv 1) pa_nil) (pk_cons pe_bl pk_nil))) (pg_name (i := 3) nd rfl (.inl rfl)) (pss_cons (ps_set (i := 4) nd rfl (.inl rfl) (pe_df D_first_borne (hr.mono (by decide)) (by rfl) (pa_cons (pv 2) (pa_cons (pe_dget (hu_of hr) (pv 1) (pv 3) (fun _ _ => rfl)) pa_nil)))) (pss_cons (ps_if (pt_cmpR op_eq (pv 4) (pe_callB call_len_seq (by rfl) B.len PySem.boot_len (pa_cons (pv 2) pa_nil)) (nomark _)) (pss_one (ps_expr (pe_bm PySem.F.plainAttrs_list PySem.F.slot_list_append PySem.F.type_list_append mt_append (pv 2) (pa_cons (pe_lst pa_nil) pa_nil)))) pss_nil) (pss_one (ps_expr (pe_bm PySem.F.plainAttrs_list PySem.F.slot_list_append PySem.F.type_list_append mt_append (pe_ix ix_list (pv 2) (pv 4) (fun _ _ => rfl)) (pa_cons (pv 3) pa_nil)))))))
    (pss_one (ps_ret (pv 2)))))), ?_⟩
    -- patience_of = patience_by_age(guests)
    refine ⟨.ref a, rfl, BB, a, ts, gs, rfl, hG, hF, hl, fun H1 d s1 n1 e1 => ?_⟩
    -- told = []
    refine ⟨Nat.zero_le _, fun o no => ?_⟩
    have s2 : Same H1 (upd H1 o (.lst [])) := same_new no
    -- sorted(patience_of, reverse=True)
    refine ⟨.ref d, rfl, d, pks gs, gs.map (·.1), rfl, rfl, .inl (s2 _ _ e1), pks_keys gs, fun ns p hp ho np => ?_⟩
    have hns : ns = (byAge gs).map (·.1) := ages_of hF hp ho
    subst hns
    have s3 : Same (upd H1 o (.lst [])) (upd (upd H1 o (.lst [])) p (.lst (((byAge gs).map (·.1)).map V.int))) := same_new np
    have sH : Same H (upd (upd H1 o (.lst [])) p (.lst (((byAge gs).map (·.1)).map V.int))) := s1.trans (s2.trans s3)
    refine ⟨p, rfl, ⟨_, SqL.of upd_same⟩, ?_⟩
    have hpo : o ≠ p := (no_of upd_same np).symm
    have eo : upd (upd H1 o (.lst [])) p (.lst (((byAge gs).map (·.1)).map V.int)) o = some (.lst []) := by
      rw [upd_ne hpo, upd_same]
    have ep : upd (upd H1 o (.lst [])) p (.lst (((byAge gs).map (·.1)).map V.int)) p = some (.lst (((byAge gs).map (·.1)).map V.int)) := upd_same
    have ed := s3 _ _ (s2 _ _ e1)
    have hdo : d ≠ o := ne_of_none e1 no
    have no' : H o = none := s1.free no
    revert eo ep ed sH
    generalize upd (upd H1 o (.lst [])) p (.lst (((byAge gs).map (·.1)).map V.int)) = Hs
    intro sH eo ep ed
    refine for_it (walk_list (xs := ((byAge gs).map (·.1)).map V.int)) (fun i σ H2 => ∃ us y3 y4, σ = [some (.ref a), some (.ref d), some (.ref o), y3, y4] ∧ Kp (fun b => b ≠ o) Hs H2 ∧ RmsAt H2 (fun b => b = o ∨ Hs b = none) o us (settleL ((byAge gs).take i)))
      ⟨[], none, none, rfl, Kp.refl, RmsAt.nil eo (.inl rfl)⟩ (fun i σ H2 _ hW => ?_) (fun i x σ H2 H3 hi hW hY => ?_) (fun σ H2 hW => ?_)
    · obtain ⟨_, _, _, _, kp, _⟩ := hW
      exact SqL.of (kp _ _ hpo.symm ep)
    · obtain ⟨us, y3, y4, rfl, kp, hR⟩ := hW
      obtain ⟨rfl, hx⟩ := hY
      obtain ⟨n, hx', rfl⟩ := ints_at hx
      have hi' : i < (byAge gs).length := by
        have := at_lt hx'
        rw [List.length_map] at this
        exact this
      obtain ⟨g, eg⟩ := at_some hi'
      rw [List.getElem?_map, eg] at hx'
      obtain rfl : g.1 = n := Option.some.inj hx'
      have hm : g ∈ gs := (byAge_perm gs).mem_iff.mp (List.mem_of_getElem? eg)
      have hlt : (settleL ((byAge gs).take i)).length ≤ 1000 := by
        refine Nat.le_trans (settleL_len _) ?_
        rw [List.length_take, byAge_length]
        omega
      have hE := settleL_take eg
      have hrm : ∀ r ∈ settleL ((byAge gs).take i), r.length ≤ 1000 := fun r hr => by
        refine Nat.le_trans (settleL_room hr) ?_
        rw [List.length_take, byAge_length]
        omega
      revert hlt hE hR hrm
      generalize settleL ((byAge gs).take i) = rs
      intro hR hlt hE hrm
      -- number = first_borne(told, patience_of[age])
      refine ⟨.ref o, rfl, .ref d, rfl, .int g.1, rfl, d, .int g.2, rfl, dget_pks (kp _ _ hdo ed) hF hm, _, o, us, _, g.2, rfl, hR, hlt, fun H4 s4 => ?_⟩
      have hR4 := hR.same s4
      have k4 : Kp (fun b => b ≠ o) Hs H4 := kp.trans (.of s4)
      have fin : ∀ {H5 : Hp} {us' : List Addr} {rs' : List (List Int)} {t : Addr} {r : List Int}, Kp (fun b => b ≠ o) Hs H5 → RmsAt H5 (fun b => b = o ∨ Hs b = none) o us' rs' → us'[firstB rs g.2]? = some t → place rs g.1 g.2 = rs'.set (firstB rs g.2) (r ++ [g.1]) →
          ∃ us y3 y4, [some (V.ref a), some (.ref d), some (.ref o), some (.int g.1), some (.int (firstB rs g.2))] = [some (V.ref a), some (.ref d), some (.ref o), y3, y4] ∧ Kp (fun b => b ≠ o) Hs (upd H5 t (.lst (r.map V.int ++ [.int g.1]))) ∧ RmsAt (upd H5 t (.lst (r.map V.int ++ [.int g.1]))) (fun b => b = o ∨ Hs b = none) o us (settleL ((byAge gs).take (i + 1))) := by
        intro H5 us' rs' t r k5 hR5 et ep
        refine ⟨us', _, _, rfl, ?_, ?_⟩
        · rcases hR5.b t (List.mem_of_getElem? et) with z | z
          · exact absurd (z ▸ List.mem_of_getElem? et) hR5.no
          · exact k5.mutF z
        · have z := hR5.set et (r ++ [g.1])
          rw [List.map_append] at z
          rw [hE, ep]
          exact z
      -- if number == len(told)
      refine ⟨_, rfl, .ref o, rfl, o, _, rfl, .inl hR4.seq, rfl, _, rfl, ite2 (fun e => ?_) (fun e => ?_)⟩
      · have e := V.int.inj (of_decide_eq_true e)
        rw [List.length_map, hR.len] at e
        have e : firstB rs g.2 = rs.length := by omega
        refine ⟨.ref o, rfl, .inl ⟨rfl, _, hR4.seq⟩, Nat.zero_le _, fun u nu => ?_⟩
        have nuo : o ≠ u := ne_of_none hR4.top nu
        refine ⟨o, _, _, rfl, rfl, (by rw [upd_ne nuo]; exact hR4.top), ils (by rw [List.length_map, hR.len]; omega), ?_⟩
        have hns : Hs u = none := k4.none nuo.symm nu
        have hR5 := hR4.push (r := []) nu (.inr hns)
        have k5 : Kp (fun b => b ≠ o) Hs (upd (upd H4 u (.lst [])) o (.lst (us.map V.ref ++ [.ref u]))) := Kp.mut (Kp.new k4 nu) (fun z => z rfl)
        have et : (us ++ [u])[firstB rs g.2]? = some u := by
          rw [e, ← hR.len, List.getElem?_append_right (Nat.le_refl _), Nat.sub_self]
          rfl
        have er : (rs ++ [[]])[firstB rs g.2]? = some [] := by
          rw [e, List.getElem?_append_right (Nat.le_refl _), Nat.sub_self]
          rfl
        have eu := hR5.at' _ _ _ et er
        refine ⟨.ref o, rfl, _, rfl, o, _, _, .ref u, rfl, rfl, SqL.of (by rw [upd_same]), atI_nat (j := firstB rs g.2) ?_, .inl ⟨rfl, _, SqL.of eu⟩, .int g.1, rfl, u, _, _, rfl, rfl, eu, ils (Nat.zero_le _), ?_⟩
        · have z := congrArg (Option.map V.ref) et
          rw [← List.getElem?_map, List.map_append] at z
          exact z
        · refine fin (r := []) k5 hR5 et ?_
          rw [place_new _ _ _ e, e, List.set_append_right _ _ (Nat.le_refl _), Nat.sub_self]
          rfl
      · have e : ¬ firstB rs g.2 = rs.length := fun z => e (decide_eq_true (by rw [List.length_map, hR.len, z]))
        have hle := firstB_le rs g.2
        obtain ⟨r, er, _⟩ := firstB_in rs g.2 (by omega)
        obtain ⟨t, et, eu⟩ := hR4.of er
        refine ⟨.ref o, rfl, _, rfl, o, _, _, .ref t, rfl, rfl, hR4.seq, atI_nat (j := firstB rs g.2) ?_, .inl ⟨rfl, _, SqL.of eu⟩, .int g.1, rfl, t, _, _, rfl, rfl, eu, ils (by rw [List.length_map]; have := hrm r (List.mem_of_getElem? er); omega), ?_⟩
        · rw [List.getElem?_map, et]
          rfl
        · exact fin k4 hR4 et (place_at _ _ _ _ er)
    · obtain ⟨us, y3, y4, rfl, kp, hR⟩ := hW
      rw [List.length_map, List.length_map, take_full] at hR
      refine ⟨.ref o, rfl, q H2 o us ?_ (hR.newTop (fun _ _ _ e => e) fun b hb => ?_)⟩
      · intro b x hb
        exact kp _ _ (ne_of_none hb no') (sH _ _ hb)
      · rcases hb with rfl | hb
        · exact no'
        · rcases hR.b b hb with rfl | z
          · exact no'
          · exact sH.free z
end
end El
namespace El
open PySem PySem.Spec PyProof.Rows L2
section
variable {P : Program} {w : World} {K : PySem.W.Frag} {mg : Str → Option Value} {base : Heap}
abbrev s_sizes : Stmt := topS 15
abbrev N_sizes : List Str := ["guests", "room"]
abbrev P_sizes : List Str := ["guests"]
theorem sc_sizes : FnScope N_sizes P_sizes (defScope s_sizes) := ⟨rfl, rfl, rfl, by decide +kernel, rfl, by decide +kernel, by decide +kernel⟩
def sp_sizes : Sp := fun vs H Q _ => ∃ (B : Addr → Prop) (a : Addr) (ts : List Addr) (gs : List (Int × Int)), vs = [.ref a] ∧ GsAt H B a ts gs ∧ Fit gs ∧ gs.length ≤ 1000 ∧
  ∀ H' o, Same H H' → H o = none → H' o = some (.lst ((lens (settle gs)).map V.int)) → Q (.ref o) H'
theorem ok_sizes (A : At K mg "sizes" P_sizes s_sizes) (B : Bi mg) (D_rooms : Df P w K mg base 2 "rooms" P_rooms s_rooms sp_rooms) : Df P w K mg base 3 "sizes" P_sizes s_sizes sp_sizes := by
  refine A.df fun f fd F => F.ok sc_sizes (fun vs H Q E h => ?_) (fun cdv AA outer s H vs Q E hr h => ?_)
  · obtain ⟨_, a, _, _, rfl, _⟩ := h
    rfl
  · obtain ⟨BB, a, ts, gs, rfl, hG, hF, hl, q⟩ := h
    have nd := sc_sizes.nd
    refine ⟨_, (pss_one (ps_ret (pe_lc (own := [("room", 1)]) (tt := tYes) rfl nd (pi_list (pe_df D_rooms (hr.mono (by decide)) (by rfl) (pa_cons (pv 0) pa_nil))) (blkOk_by (N := N_sizes) (sc := defScope s_sizes) (by decide +kernel)) (fun _ _ _ _ _ => (pg_name (i := 1) nd rfl (.inl rfl))) (fun _ _ _ _ _ => pts_nil) (fun _ _ _ _ _ => (pe_callB (lenK K) (by rfl) B.len PySem.boot_len (pa_cons (pv 1) pa_nil)))))), ?_⟩
    refine ⟨.ref a, rfl, BB, a, ts, gs, rfl, hG, hF, hl, fun H1 o us s1 hR => ?_⟩
    refine ⟨o, rfl, ⟨_, hR.seq⟩, fun D nD => ?_⟩
    have hlen : (settle gs).length ≤ 1000 := Nat.le_trans (settleL_len _) (by rw [byAge_length]; exact hl)
    refine lc_it (walk_list (xs := us.map V.ref)) (fun i H2 => Same H1 H2 ∧ H2 D = some (.lst ((lens ((settle gs).take i)).map V.int))) ⟨same_new nD, upd_same⟩ (fun i H2 _ hW => ?_) (fun i x H2 H3 hi hW hY => ?_) (fun H2 hW => ?_)
    · exact (hR.same hW.1).seq
    · obtain ⟨sm, hD⟩ := hW
      obtain ⟨rfl, hx⟩ := hY
      obtain ⟨t, r, rfl, _, er, et⟩ := (hR.same sm).get hx
      refine ⟨rfl, .ref t, rfl, t, _, rfl, .inl (SqL.of et), _, hD, ils (by rw [List.length_map, lens_length, List.length_take]; omega), Same.mut sm nD, ?_⟩
      rw [upd_same, take_snoc er]
      show _ = some (HO.lst (((((settle gs).take i) ++ [r]).map fun r => (r.length : Int)).map V.int))
      rw [List.map_append, List.map_append]
      show some (HO.lst (_ ++ [V.int ((List.map V.int r).length : Int)])) = _
      rw [List.length_map]
      rfl
    · obtain ⟨sm, hD⟩ := hW
      rw [List.length_map, hR.len, take_full] at hD
      exact q H2 D (s1.trans sm) (s1.free nD) hD
end
end El
namespace El
open PySem PySem.Spec PyProof.Rows L2
section
variable {P : Program} {w : World} {K : PySem.W.Frag} {mg : Str → Option Value} {base : Heap}
abbrev s_is_best : Stmt := topS 20
abbrev N_is_best : List Str := ["guests", "arrangement", "filled", "room"]
abbrev P_is_best : List Str := ["guests", "arrangement"]
theorem sc_is_best : FnScope N_is_best P_is_best (defScope s_is_best) := ⟨rfl, rfl, rfl, by decide +kernel, rfl, by decide +kernel, by decide +kernel⟩
def sp_is_best : Sp := fun vs H Q _ => ∃ (BB : Addr → Prop) (a o : Addr) (ts us : List Addr) (gs : List (Int × Int)) (rs : List (List Int)), vs = [.ref a, .ref o] ∧ GsAt H BB a ts gs ∧ Fit gs ∧ gs.length ≤ 1000 ∧ RdAt H o us rs ∧ rs.flatten.Perm (gs.map (·.1)) ∧ rs.length ≤ 1000 ∧
  ∀ H', Same H H' → Q (.bl (bestB gs rs)) H'
theorem ok_is_best (A : At K mg "is_best" P_is_best s_is_best) (B : Bi mg) (D_upset : Df P w K mg base 2 "upset" P_upset s_upset sp_upset) (D_sizes : Df P w K mg base 3 "sizes" P_sizes s_sizes sp_sizes) : Df P w K mg base 4 "is_best" P_is_best s_is_best sp_is_best := by
  refine A.df fun f fd F => F.ok sc_is_best (fun vs H Q E h => ?_) (fun cdv AA outer s H vs Q E hr h => ?_)
  · obtain ⟨_, _, _, _, _, _, _, rfl, _⟩ := h
    rfl
  · obtain ⟨BB, a, o, ts, us, gs, rs, rfl, hG, hF, hl, hR, hp, hrl, q⟩ := h
    have nd := sc_is_best.nd
    refine ⟨_, (pss_cons (ps_if (pt_cmpR op_notN (pe_df D_upset (hr.mono (by decide)) (by rfl) (pa_cons (pv 0) (pa_cons (pv 1) pa_nil))) pe_non (nomark _)) (pss_one (ps_ret pe_bl)) pss_nil)
    (pss_cons (ps_setLc (i := 2) (own := [("room", 3)]) rfl nd rfl rfl (sw_true rfl rfl rfl (by decide +kernel)) (pi_list (pv 1)) (blkOk_by (N := N_is_best) (sc := defScope s_is_best) (by decide +kernel)) (fun _ _ _ _ _ => (pg_name (i := 3) nd rfl (.inl rfl))) (fun _ _ _ _ _ => (pts_one (ptTruthK K (pv 3) (by intro _; rfl)))) (fun _ _ _ _ _ => (pe_callB (lenK K) (by rfl) B.len PySem.boot_len (pa_cons (pv 3) pa_nil))))
    (pss_one (ps_ret (pe_cmpR (op_eqD hr.units) (pe_callBK (cr_sortedRev (b := true)) (by rfl) B.sorted (by decide +kernel) (pa_cons (pv 2) pa_nil) (pk_cons pe_bl pk_nil)) (pe_df D_sizes (hr.mono (by decide)) (by rfl) (pa_cons (pv 0) pa_nil)) (nomark _)))))), ?_⟩
    refine ⟨.ref a, rfl, .ref o, rfl, BB, a, o, ts, us, gs, rs, rfl, hG, hF, hl, hR, hp, fun hu H1 s1 => ?_, fun i x hu H1 t s1 n1 e1 => ?_⟩
    · refine ⟨rfl, _, rfl, iteFx (by simp) ?_⟩
      have hR1 := hR.same s1
      refine ⟨.ref o, rfl, o, rfl, ⟨_, hR1.seq⟩, fun D nD => ?_⟩
      refine lc_it (walk_list (xs := us.map V.ref)) (fun i H2 => Same H1 H2 ∧ H2 D = some (.lst ((lensD (rs.take i)).map V.int))) ⟨same_new nD, upd_same⟩ (fun i H2 _ hW => ?_) (fun i x H2 H3 hi hW hY => ?_) (fun H2 hW => ?_)
      · exact (hR1.same hW.1).seq
      · obtain ⟨sm, hD⟩ := hW
        obtain ⟨rfl, hx⟩ := hY
        obtain ⟨t, r, rfl, _, er, et⟩ := (hR1.same sm).get hx
        have hfs := full_snoc er
        refine ⟨rfl, .ref t, rfl, _, .inl ⟨_, SqL.of et, rfl⟩, ?_⟩
        cases r with
        | nil =>
          refine iteF ⟨sm, ?_⟩
          rw [hfs, if_pos rfl]
          exact hD
        | cons z r =>
          rw [if_neg (by simp)] at hfs
          have hb := lensD_len (rs.take i)
          rw [List.length_take] at hb
          refine iteT ⟨.ref t, rfl, t, _, rfl, .inl (SqL.of et), _, hD, ils (by rw [List.length_map]; omega), Same.mut sm nD, ?_⟩
          rw [upd_same, hfs, List.map_append, List.length_map]
          rfl
      obtain ⟨s2, eD⟩ := hW
      rw [List.length_map, hR.len, take_full] at eD
      refine ⟨.ref D, rfl, D, _, rfl, rfl, SqL.of eD, fun ms p hp hs np => ?_⟩
      have hms : ms = down (lensD rs) := down_is hp hs
      subst hms
      have s3 : Same H2 (upd H2 p (.lst ((down (lensD rs)).map V.int))) := same_new np
      refine ⟨.ref a, rfl, BB, a, ts, gs, rfl, (hG.same s1).same (Same.trans s2 s3), hF, hl, fun H4 o4 s4 n4 e4 => ?_⟩
      refine ⟨dInts (down (lensD rs)), dInts (lens (settle gs)), Dp.ints (s4 _ _ upd_same), Dp.ints e4, (Oks.ints _).shaped, (Oks.ints _).shaped, ?_⟩
      rw [eqv_ints]
      have z := q H4 (Same.trans s1 (Same.trans s2 (Same.trans s3 s4)))
      unfold bestB at z
      rw [decide_eq_true hu, Bool.true_and] at z
      exact z
    · refine ⟨rfl, _, rfl, iteTx (by simp) ?_⟩
      have z := q H1 s1
      unfold bestB at z
      rw [hu, decide_eq_false (by simp), Bool.false_and] at z
      exact z
end
end El
namespace El
open PySem PySem.Spec PyProof.Rows L2
section
variable {P : Program} {w : World} {K : PySem.W.Frag} {mg : Str → Option Value} {base : Heap}
abbrev s_one_more : Stmt := topS 22
abbrev N_one_more : List Str := ["guests", "age", "patience", "before", "after", "number", "size"]
abbrev P_one_more : List Str := ["guests", "age", "patience"]
theorem sc_one_more : FnScope N_one_more P_one_more (defScope s_one_more) := ⟨rfl, rfl, rfl, by decide +kernel, rfl, by decide +kernel, by decide +kernel⟩
def sp_one_more : Sp := fun vs H Q _ => ∃ (B : Addr → Prop) (a : Addr) (ts : List Addr) (gs : List (Int × Int)) (x : Int × Int) (d : Nat), vs = [.ref a, .int x.1, .int x.2] ∧ GsAt H B a ts gs ∧ Fit (x :: gs) ∧ gs.length ≤ 900 ∧
  d ≤ (settle gs).length ∧ lens (settle (x :: gs)) = bump (lens (settle gs)) d ∧ ∀ H', Same H H' → Q (.int (d : Int)) H'
theorem ok_one_more (A : At K mg "one_more" P_one_more s_one_more) (B : Bi mg) (D_patience_by_age : Df P w K mg base 1 "patience_by_age" P_patience_by_age s_patience_by_age sp_patience_by_age)
    (D_check_newcomer : Df P w K mg base 1 "check_newcomer" P_check_newcomer s_check_newcomer sp_check_newcomer) (D_sizes : Df P w K mg base 3 "sizes" P_sizes s_sizes sp_sizes) : Df P w K mg base 4 "one_more" P_one_more s_one_more sp_one_more := by
  refine A.df fun f fd F => F.ok sc_one_more (fun vs H Q E h => ?_) (fun cdv AA outer s H vs Q E hr h => ?_)
  · obtain ⟨_, _, _, _, _, _, rfl, _⟩ := h
    rfl
  · obtain ⟨BB, a, ts, gs, x, d, rfl, hG, hF, hl, hd, hL, q⟩ := h
    have nd := sc_one_more.nd
    have hFg : Fit gs := ⟨(List.nodup_cons.mp hF.nd).2, fun g hg => hF.pos g (List.mem_cons_of_mem _ hg)⟩
    refine ⟨_, (pss_cons (ps_expr (pe_df D_check_newcomer (hr.mono (by decide)) (by rfl) (pa_cons (pe_df D_patience_by_age (hr.mono (by decide)) (by rfl) (pa_cons (pv 0) pa_nil)) (pa_cons (pv 1) (pa_cons (pv 2) pa_nil)))))
    (pss_cons (ps_set (i := 3) nd rfl (.inl rfl) (pe_df D_sizes (hr.mono (by decide)) (by rfl) (pa_cons (pv 0) pa_nil)))
    (pss_cons (ps_set (i := 4) nd rfl (.inl rfl) (pe_df D_sizes (hr.mono (by decide)) (by rfl) (pa_cons (pe_lst (StX.pa_star (pv 0) (pa_cons (pe_tup (pa_cons (pv 1) (pa_cons (pv 2) pa_nil))) pa_nil))) pa_nil)))
    (pss_cons (ps_for PassesOwn.never rfl (pi_enum (by rfl) B.enumerate (pa_cons (pv 3) pa_nil)) (pg_tup (by rfl) (pgs_cons (pg_name (i := 5) nd rfl (.inl rfl)) (pgs_cons (pg_name (i := 6) nd rfl (.inl rfl)) pgs_nil))) (pss_one (ps_if (pt_cmpR op_gt (pe_ix ix_list (pv 4) (pv 5) (fun _ _ => rfl)) (pv 6) (nomark _)) (pss_one (ps_ret (pv 5))) pss_nil)))
    (pss_one (ps_ret (pe_callB call_len_seq (by rfl) B.len PySem.boot_len (pa_cons (pv 3) pa_nil)))))))), ?_⟩
    refine ⟨.ref a, rfl, BB, a, ts, gs, rfl, hG, hFg, by omega, fun H1 pd s1 n1 e1 => ?_⟩
    refine ⟨.int x.1, rfl, .int x.2, rfl, pd, gs, x.1, x.2, rfl, e1, (List.nodup_cons.mp hF.nd).1, hF.pos x List.mem_cons_self, ?_⟩
    -- before
    refine ⟨.ref a, rfl, BB, a, ts, gs, rfl, hG.same s1, hFg, by omega, fun H2 bo s2 nbo ebo => ?_⟩
    have hG2 := (hG.same s1).same s2
    -- after
    refine ⟨.ref a, rfl, a, _, rfl, .inr hG2.seq, .int x.1, rfl, .int x.2, rfl, (by show 2 ≤ sizeLine; decide), fun u nu => ?_⟩
    refine ⟨ile (by rw [List.length_append, List.length_map, hG.len]; show gs.length + 1 ≤ 100000; omega), fun l nl => ?_⟩
    have s3 : Same H2 (upd (upd H2 u (.tup [.int x.1, .int x.2])) l (.lst (ts.map V.ref ++ [.ref u]))) := Same.trans (same_new nu) (same_new nl)
    have eu : upd (upd H2 u (.tup [.int x.1, .int x.2])) l (.lst (ts.map V.ref ++ [.ref u])) u = some (.tup [.int x.1, .int x.2]) := (same_new nl) _ _ upd_same
    have hC := (hG2.same s3).cat (g := x) eu upd_same
    have pm : (gs ++ [x]).Perm (x :: gs) := List.perm_append_comm
    refine ⟨_, l, _, _, rfl, hC, hF.perm pm, by rw [List.length_append]; show gs.length + 1 ≤ 1000; omega, fun H4 ao s4 nao eao => ?_⟩
    rw [settle_congr hF pm, hL] at eao
    have hLl : (lens (settle gs)).length = (settle gs).length := lens_length _
    have ebo4 := s4 _ _ (s3 _ _ ebo)
    have s04 : Same H H4 := Same.trans s1 (Same.trans s2 (Same.trans s3 s4))
    have hbl : (settle gs).length ≤ 1000 := Nat.le_trans (settleL_len _) (by rw [byAge_length]; omega)
    revert hLl eao ebo4 hd
    generalize lens (settle gs) = L
    intro hd eao hLl ebo4
    refine ⟨.ref bo, rfl, bo, _, rfl, SqL.of ebo4, ?_⟩
    refine for_it (walk_enum (xs := L.map V.int)) (fun i σ H5 => ∃ y5 y6, σ = [some (.ref a), some (.int x.1), some (.int x.2), some (.ref bo), some (.ref ao), y5, y6] ∧ Same H4 H5 ∧ i ≤ d) ⟨none, none, rfl, Same.refl _, Nat.zero_le _⟩ (fun i σ H5 _ hW => ?_) (fun i z σ H5 H6 hi hW hY => ?_) (fun σ H5 hW => ?_)
    · obtain ⟨_, _, _, sm, _⟩ := hW
      exact SqL.of (sm _ _ ebo4)
    · obtain ⟨y5, y6, rfl, sm, hid⟩ := hW
      obtain ⟨T, x1, x2, rfl, nT, rfl, f1, f2⟩ := hY
      obtain rfl : V.int ↑i = x1 := Option.some.inj f1
      obtain ⟨n, en, rfl⟩ := ints_at f2
      have s7 : Same H5 (upd H5 T (.tup [.int i, .int n])) := same_new nT
      have hib : i < (bump L d).length := by
        rw [bump_length]
        have := at_lt en
        split <;> omega
      have eb := bump_at L (d := d) (k := i) (by omega) hib
      have eg : L.getD i 0 = n := by rw [List.getD_eq_getElem?_getD, en]; rfl
      rw [eg] at eb
      refine ⟨T, _, rfl, SqT.of upd_same, rfl, .int i, _, rfl, .int n, _, rfl, rfl, ?_⟩
      refine ⟨.ref ao, rfl, _, rfl, ao, _, _, .int (n + if i = d then 1 else 0), rfl, rfl, SqL.of (s7 _ _ (sm _ _ eao)), atI_nat (j := i) (by rw [List.getElem?_map, eb]; rfl), .int n, rfl, _, _, rfl, rfl, _, rfl, ite2 (fun e => ?_) (fun e => ?_)⟩
      · have e : n < n + (if i = d then 1 else 0) := of_decide_eq_true e
        have hid' : i = d := by
          by_cases z : i = d
          · exact z
          · rw [if_neg z] at e
            omega
        subst hid'
        exact ⟨_, rfl, q _ (Same.trans s04 (Same.trans sm s7))⟩
      · have e : ¬ n < n + (if i = d then 1 else 0) := fun z => e (decide_eq_true z)
        have hid' : i ≠ d := fun z => e (by rw [if_pos z]; omega)
        exact ⟨_, _, rfl, Same.trans sm s7, by omega⟩
    · obtain ⟨y5, y6, rfl, sm, hid⟩ := hW
      rw [List.length_map] at hid
      have hdl : d = L.length := by omega
      refine ⟨.ref bo, rfl, bo, _, rfl, .inl (SqL.of (sm _ _ ebo4)), ?_⟩
      rw [List.length_map, ← hdl]
      exact q _ (Same.trans s04 sm)
end
end El
namespace El
open PySem PySem.Spec PyProof.Rows L2
section
variable {P : Program} {w : World} {K : PySem.W.Frag} {mg : Str → Option Value} {base : Heap}
abbrev s_sent_away : Stmt := topS 19
abbrev N_sent_away : List Str := ["guests", "j", "told", "room", "age"]
abbrev P_sent_away : List Str := ["guests", "j"]
theorem sc_sent_away : FnScope N_sent_away P_sent_away (defScope s_sent_away) := ⟨rfl, rfl, rfl, by decide +kernel, rfl, by decide +kernel, by decide +kernel⟩
def sp_sent_away : Sp := fun vs H Q _ => ∃ (BB : Addr → Prop) (a : Addr) (ts : List Addr) (gs : List (Int × Int)) (j : Nat), vs = [.ref a, .int (j : Int)] ∧ GsAt H BB a ts gs ∧ Fit gs ∧ gs.length ≤ 1000 ∧
  ∀ H' o, Same H H' → H o = none → H' o = some (.lst ((sentAway gs j).map V.int)) → Q (.ref o) H'
theorem ok_sent_away (A : At K mg "sent_away" P_sent_away s_sent_away) (B : Bi mg) (D_rooms : Df P w K mg base 2 "rooms" P_rooms s_rooms sp_rooms) (D_check_first : Df P w K mg base 1 "check_first" P_check_first s_check_first sp_check_first) : Df P w K mg base 3 "sent_away" P_sent_away s_sent_away sp_sent_away := by
  refine A.df fun f fd F => F.ok sc_sent_away (fun vs H Q E h => ?_) (fun cdv AA outer s H vs Q E hr h => ?_)
  · obtain ⟨_, _, _, _, _, rfl, _⟩ := h
    rfl
  · obtain ⟨BB, a, ts, gs, j, rfl, hG, hF, hl, q⟩ := h
    have nd := sc_sent_away.nd
    refine ⟨_, (pss_cons (ps_set (i := 2) nd rfl (.inl rfl) (pe_df D_rooms (hr.mono (by decide)) (by rfl) (pa_cons (pv 0) pa_nil)))
    (pss_cons (ps_expr (pe_df D_check_first (hr.mono (by decide)) (by rfl) (pa_cons (pv 1) pa_nil)))
    (pss_one (ps_ret (pe_callBK (cr_sortedRev (b := true)) (by rfl) B.sorted (by decide +kernel) (pa_cons (pe_lc2 (own := [("room", 3), ("age", 4)]) (vs1 := [4]) (tt := tYes) (tt1 := tYes) rfl nd (pi_list (pe_slice sl_list (pv 2) (po_some (pv 1)) po_none)) (blkOk_by (N := N_sent_away) (sc := defScope s_sent_away) (by decide +kernel)) (by decide) (fun _ _ _ _ _ => (pg_name (i := 3) nd rfl (.inl rfl))) (fun _ _ _ _ _ => pts_nil) (fun _ _ _ _ _ => (piListK K (pv 3))) (fun _ _ _ _ _ => (pg_name (i := 4) nd rfl (.inl rfl))) (fun _ _ _ _ _ => pts_nil) (fun _ _ _ _ _ => (pv 4))) pa_nil) (pk_cons pe_bl pk_nil)))))), ?_⟩
    refine ⟨.ref a, rfl, BB, a, ts, gs, rfl, hG, hF, hl, fun H1 o us s1 hR => ?_⟩
    refine ⟨.int j, rfl, j, rfl, ?_⟩
    -- the slice
    refine ⟨.ref o, rfl, .int (j : Int), rfl, _, rfl, o, _, rfl, hR.seq, fun p np => ?_⟩
    rw [cut_from, ← List.map_drop]
    have sp : Same H1 (upd H1 p (.lst ((us.drop j).map V.ref))) := same_new np
    have hR2 := hR.rd.same sp
    have ep : upd H1 p (.lst ((us.drop j).map V.ref)) p = some (.lst ((us.drop j).map V.ref)) := upd_same
    revert sp hR2 ep
    generalize upd H1 p (.lst ((us.drop j).map V.ref)) = H2
    intro sp hR2 ep
    refine ⟨p, rfl, ⟨_, SqL.of ep⟩, fun D nD => ?_⟩
    have hall : ∀ m, ((settle gs).take m).flatten.length ≤ gs.length := fun m => by
      have := congrArg List.length (congrArg List.flatten (List.take_append_drop m (settle gs)))
      rw [List.flatten_append, List.length_append, (settle_flat gs).length_eq, List.length_map] at this
      omega
    have hdr : ∀ m, (((settle gs).drop j).take m).flatten.length ≤ gs.length := fun m => by
      have h1 := congrArg List.length (congrArg List.flatten (List.take_append_drop m ((settle gs).drop j)))
      have h2 := congrArg List.length (congrArg List.flatten (List.take_append_drop j (settle gs)))
      rw [List.flatten_append, List.length_append] at h1 h2
      rw [(settle_flat gs).length_eq, List.length_map] at h2
      omega
    refine out_it (walk_list (xs := (us.drop j).map V.ref)) (fun i H3 => Same H2 H3 ∧ H3 D = some (.lst (((((settle gs).drop j).take i).flatten).map V.int))) ⟨same_new nD, upd_same⟩ (fun i H3 _ hW => ?_) (fun i x H3 H4 hi hW hY => ?_) (fun H3 hW => ?_)
    · exact SqL.of (hW.1 _ _ ep)
    · obtain ⟨sm, hD⟩ := hW
      obtain ⟨rfl, hx⟩ := hY
      obtain ⟨t, et0, rfl⟩ := refs_at hx
      have hi' : i < ((settle gs).drop j).length := by
        have := at_lt et0
        rw [List.length_drop] at this ⊢
        rw [← hR.len]
        exact this
      obtain ⟨r, er⟩ := at_some hi'
      have et : H4 t = some (.lst (r.map V.int)) := by
        refine sm _ _ (hR2.at' (j + i) t r ?_ ?_)
        · rw [← List.getElem?_drop]
          exact et0
        · rw [← List.getElem?_drop]
          exact er
      refine ⟨rfl, .ref t, rfl, t, rfl, ⟨_, SqL.of et⟩, ?_⟩
      have ntD : t ≠ D := fun z => by
        rw [z] at et0
        have := hR2.at' (j + i) D r (by rw [← List.getElem?_drop]; exact et0) (by rw [← List.getElem?_drop]; exact er)
        rw [nD] at this
        cases this
      have hlen := hdr (i + 1)
      rw [take_snoc_flat er, List.length_append] at hlen
      refine out_it (walk_list (xs := r.map V.int)) (fun k H5 => Same H2 H5 ∧ H5 t = some (.lst (r.map V.int)) ∧ H5 D = some (.lst (((((settle gs).drop j).take i).flatten ++ r.take k).map V.int))) ⟨sm, et, by rw [List.take_zero, List.append_nil]; exact hD⟩ (fun k H5 _ hW => ?_) (fun k x H5 H6 hk hW hY => ?_) (fun H5 hW => ?_)
      · exact SqL.of hW.2.1
      · obtain ⟨sm5, et5, hD5⟩ := hW
        obtain ⟨rfl, hx⟩ := hY
        obtain ⟨a', ea, rfl⟩ := ints_at hx
        refine ⟨rfl, .int a', rfl, _, hD5, ils (by rw [List.length_map, List.length_append, List.length_take]; omega), Same.mut sm5 nD, ?_, ?_⟩
        · rw [upd_ne ntD]
          exact et5
        · rw [upd_same, take_snoc ea, ← List.append_assoc, List.map_append (l₂ := [a'])]
          rfl
      · obtain ⟨sm5, et5, hD5⟩ := hW
        rw [List.length_map, take_full, ← take_snoc_flat er] at hD5
        exact ⟨sm5, hD5⟩
    · obtain ⟨sm, hD⟩ := hW
      rw [List.length_map, show (us.drop j).length = ((settle gs).drop j).length by rw [List.length_drop, List.length_drop, hR.len], take_full] at hD
      refine ⟨D, _, rfl, rfl, SqL.of hD, fun ms p' hp hs np' => ?_⟩
      have hms : ms = sentAway gs j := down_is hp hs
      subst hms
      have s4 : Same H (upd H3 p' (.lst ((sentAway gs j).map V.int))) := s1.trans (sp.trans (sm.trans (same_new np')))
      exact q _ p' s4 (s1.trans (sp.trans sm) |>.free np') upd_same
end
end El
namespace El
open PySem PySem.Spec PyProof.Rows L2
/-- how many pairs share a room -/
def pairsOf (L : List Int) : List Int := L.map fun s => s * (s - 1) / 2
section
variable {P : Program} {w : World} {K : PySem.W.Frag} {mg : Str → Option Value} {base : Heap}
abbrev s_pairs : Stmt := topS 21
abbrev N_pairs : List Str := ["guests", "size"]
abbrev P_pairs : List Str := ["guests"]
theorem sc_pairs : FnScope N_pairs P_pairs (defScope s_pairs) := ⟨rfl, rfl, rfl, by decide +kernel, rfl, by decide +kernel, by decide +kernel⟩
def sp_pairs : Sp := fun vs H Q _ => ∃ (B : Addr → Prop) (a : Addr) (ts : List Addr) (gs : List (Int × Int)), vs = [.ref a] ∧ GsAt H B a ts gs ∧ Fit gs ∧ gs.length ≤ 1000 ∧
  ∀ H', Same H H' → Q (.int (pairsOf (lens (settle gs))).sum) H'
theorem ok_pairs (A : At K mg "pairs" P_pairs s_pairs) (B : Bi mg) (D_sizes : Df P w K mg base 3 "sizes" P_sizes s_sizes sp_sizes) : Df P w K mg base 4 "pairs" P_pairs s_pairs sp_pairs := by
  refine A.df fun f fd F => F.ok sc_pairs (fun vs H Q E h => ?_) (fun cdv AA outer s H vs Q E hr h => ?_)
  · obtain ⟨_, a, _, _, rfl, _⟩ := h
    rfl
  · obtain ⟨BB, a, ts, gs, rfl, hG, hF, hl, q⟩ := h
    have nd := sc_pairs.nd
    refine ⟨_, (pss_one (ps_ret (pe_callB (cr_sum rfl) (by rfl) B.sum (by decide +kernel) (pa_cons (pe_lc (own := [("size", 1)]) (tt := tYes) rfl nd (pi_list (pe_df D_sizes (hr.mono (by decide)) (by rfl) (pa_cons (pv 0) pa_nil))) (blkOk_by (N := N_pairs) (sc := defScope s_pairs) (by decide +kernel)) (fun _ _ _ _ _ => (pg_name (i := 1) nd rfl (.inl rfl))) (fun _ _ _ _ _ => pts_nil) (fun _ _ _ _ _ => (pe_op op_fdivW (pe_op op_mul (pv 1) (pe_op op_sub (pv 1) pe_int)) pe_int))) pa_nil)))), ?_⟩
    refine ⟨.ref a, rfl, BB, a, ts, gs, rfl, hG, hF, hl, fun H1 o s1 n1 e1 => ?_⟩
    have hL : ∀ (i : Nat) (x : Int), (lens (settle gs))[i]? = some x → 0 ≤ x ∧ x ≤ 1000 := fun i x e => by
      unfold lens at e
      rw [List.getElem?_map] at e
      cases q : (settle gs)[i]? with
      | none => rw [q] at e; cases e
      | some r =>
        rw [q] at e
        have e2 : (r.length : Int) = x := Option.some.inj e
        have h1 : r.length ≤ (byAge gs).length := settleL_room (List.mem_of_getElem? q)
        rw [byAge_length] at h1
        omega
    have hlen : (lens (settle gs)).length ≤ 1000 := by
      rw [lens_length]
      exact Nat.le_trans (settleL_len _) (by rw [byAge_length]; exact hl)
    revert e1 hL hlen
    generalize lens (settle gs) = L at q ⊢
    intro e1 hL hlen
    refine ⟨o, rfl, ⟨_, SqL.of e1⟩, fun D nD => ?_⟩
    refine lc_it (walk_list (xs := L.map V.int)) (fun i H2 => Same H1 H2 ∧ H2 D = some (.lst ((pairsOf (L.take i)).map V.int))) ⟨same_new nD, upd_same⟩ (fun i H2 _ hW => ?_) (fun i x H2 H3 hi hW hY => ?_) (fun H2 hW => ?_)
    · exact SqL.of (hW.1 _ _ e1)
    · obtain ⟨sm, hD⟩ := hW
      obtain ⟨rfl, hx⟩ := hY
      obtain ⟨z, ez, rfl⟩ := ints_at hx
      obtain ⟨h0, h1⟩ := hL i z ez
      refine ⟨rfl, .int z, rfl, .int z, rfl, _, _, rfl, rfl, _, _, rfl, rfl, .inl ⟨Int.lt_of_lt_of_le (by decide) h0, Int.lt_of_le_of_lt h1 (by decide)⟩, _, _, rfl, rfl, ⟨by decide, by decide⟩, _, hD, ils (by rw [List.length_map]; show (List.map _ _).length ≤ _; rw [List.length_map, List.length_take]; omega), Same.mut sm nD, ?_⟩
      rw [upd_same, take_snoc ez]
      unfold pairsOf
      rw [List.map_append, List.map_append]
      rfl
    · obtain ⟨sm, hD⟩ := hW
      rw [List.length_map, take_full] at hD
      exact ⟨D, _, rfl, SqL.of hD, q H2 (s1.trans sm)⟩
end
end El
namespace El
open PySem PySem.Spec PyProof.Rows L2
def sp_patience_by_age_x (CG : Addr) : Sp := fun vs H Q E => sp_patience_by_age vs H Q E0 ∨ sp_bg CG 0 vs H Q E
def sp_rooms_x (CG : Addr) : Sp := fun vs H Q E => sp_rooms vs H Q E0 ∨ sp_bg CG 0 vs H Q E
def sp_sizes_x (CG : Addr) : Sp := fun vs H Q E => sp_sizes vs H Q E0 ∨ sp_bg CG 0 vs H Q E
section
variable {P : Program} {w : World} {K : PySem.W.Frag} {mg : Str → Option Value} {base : Heap}
theorem okx_patience_by_age {CG : Addr} (A : At K mg "patience_by_age" P_patience_by_age s_patience_by_age) (B : Bi mg) (E_NoGuest : OwnW P w K mg base "NoGuest" CG) : DfX P w K mg base 3 "patience_by_age" P_patience_by_age s_patience_by_age (sp_patience_by_age_x CG) :=
  Df.orx (ok_patience_by_age A B) (okb_patience_by_age A B E_NoGuest) (by decide)
theorem okb_rooms {CG : Addr} (A : At K mg "rooms" P_rooms s_rooms) (B : Bi mg) (XD_patience_by_age : DfX P w K mg base 3 "patience_by_age" P_patience_by_age s_patience_by_age (sp_patience_by_age_x CG))
    (D_first_borne : Df P w K mg base 1 "first_borne" P_first_borne s_first_borne sp_first_borne) : DfX P w K mg base 4 "rooms" P_rooms s_rooms (sp_bg CG 0) := by
  refine A.dfx fun f fd F => F.okX sc_rooms (fun vs H Q E h => ?_) (fun cdv AA outer s H vs Q E hr h => ?_)
  · obtain ⟨_, _, _, _, _, more, rfl, hm, _⟩ := h
    rw [List.length_cons, hm]
    rfl
  · obtain ⟨BB, a, ts, gs, m, more, rfl, hm, hG, hl, hb, q⟩ := h
    obtain rfl := List.eq_nil_of_length_eq_zero hm
    have nd := sc_rooms.nd
    refine ⟨_, (pss_cons (ps_set (i := 1) nd rfl (.inl rfl) (pe_dfS XD_patience_by_age (takes_of rfl rfl rfl rfl) (hr.mono (by decide)) (by rfl) (pa_cons (pv 0) pa_nil)))
    (pss_cons (ps_set (i := 2) nd rfl (.inl rfl) (pe_lst pa_nil))
    (pss_cons (ps_for (passes_of rfl) rfl (pi_list (pe_callBK (cr_sortedRevD (b := true) rfl) (by rfl) B.sorted (by decide +kernel) (pa_cons (pv 1) pa_nil) (pk_cons pe_bl pk_nil))) (pg_name (i := 3) nd rfl (.inl rfl)) (pss_cons (ps_set (i := 4) nd rfl (.inl rfl) (pe_df D_first_borne (hr.mono (by decide)) (by rfl) (pa_cons (pv 2) (pa_cons (pe_dget (hu_of hr) (pv 1) (pv 3) (fun _ _ => rfl)) pa_nil)))) (pss_cons (ps_if (pt_cmpR op_eq (pv 4) (pe_callB call_len_seq (by rfl) B.len PySem.boot_len (pa_cons (pv 2) pa_nil)) (nomark _)) (pss_one (ps_expr (pe_bm PySem.F.plainAttrs_list PySem.F.slot_list_append PySem.F.type_list_append mt_append (pv 2) (pa_cons (pe_lst pa_nil) pa_nil)))) pss_nil) (pss_one (ps_expr (pe_bm PySem.F.plainAttrs_list PySem.F.slot_list_append PySem.F.type_list_append mt_append (pe_ix ix_list (pv 2) (pv 4) (fun _ _ => rfl)) (pa_cons (pv 3) pa_nil)))))))
    (pss_one (ps_ret (pv 2)))))), ?_⟩
    exact ⟨.ref a, rfl, .inr ⟨BB, a, ts, gs, m, [], rfl, rfl, hG, hl, hb, q⟩⟩
theorem okx_rooms {CG : Addr} (A : At K mg "rooms" P_rooms s_rooms) (B : Bi mg) (XD_patience_by_age : DfX P w K mg base 3 "patience_by_age" P_patience_by_age s_patience_by_age (sp_patience_by_age_x CG))
    (D_first_borne : Df P w K mg base 1 "first_borne" P_first_borne s_first_borne sp_first_borne) (D_rooms : Df P w K mg base 2 "rooms" P_rooms s_rooms sp_rooms) : DfX P w K mg base 4 "rooms" P_rooms s_rooms (sp_rooms_x CG) :=
  Df.orx D_rooms (okb_rooms A B XD_patience_by_age D_first_borne) (by decide)
theorem okb_sizes {CG : Addr} (A : At K mg "sizes" P_sizes s_sizes) (B : Bi mg) (XD_rooms : DfX P w K mg base 4 "rooms" P_rooms s_rooms (sp_rooms_x CG)) : DfX P w K mg base 5 "sizes" P_sizes s_sizes (sp_bg CG 0) := by
  refine A.dfx fun f fd F => F.okX sc_sizes (fun vs H Q E h => ?_) (fun cdv AA outer s H vs Q E hr h => ?_)
  · obtain ⟨_, _, _, _, _, more, rfl, hm, _⟩ := h
    rw [List.length_cons, hm]
    rfl
  · obtain ⟨BB, a, ts, gs, m, more, rfl, hm, hG, hl, hb, q⟩ := h
    obtain rfl := List.eq_nil_of_length_eq_zero hm
    have nd := sc_sizes.nd
    refine ⟨_, (pss_one (ps_ret (pe_lc (own := [("room", 1)]) (tt := tYes) rfl nd (pi_list (pe_dfS XD_rooms (takes_of rfl rfl rfl rfl) (hr.mono (by decide)) (by rfl) (pa_cons (pv 0) pa_nil))) (blkOk_by (N := N_sizes) (sc := defScope s_sizes) (by decide +kernel)) (fun _ _ _ _ _ => (pg_name (i := 1) nd rfl (.inl rfl))) (fun _ _ _ _ _ => pts_nil) (fun _ _ _ _ _ => (pe_callB (lenK K) (by rfl) B.len PySem.boot_len (pa_cons (pv 1) pa_nil)))))), ?_⟩
    exact ⟨.ref a, rfl, .inr ⟨BB, a, ts, gs, m, [], rfl, rfl, hG, hl, hb, q⟩⟩
theorem okx_sizes {CG : Addr} (A : At K mg "sizes" P_sizes s_sizes) (B : Bi mg) (XD_rooms : DfX P w K mg base 4 "rooms" P_rooms s_rooms (sp_rooms_x CG)) (D_sizes : Df P w K mg base 3 "sizes" P_sizes s_sizes sp_sizes) : DfX P w K mg base 5 "sizes" P_sizes s_sizes (sp_sizes_x CG) :=
  Df.orx D_sizes (okb_sizes A B XD_rooms) (by decide)
end
end El
namespace El
open PySem PySem.Spec PyProof.Rows L2
def sp_check_arrangement_x (CR : Addr) : Sp := fun vs H Q E => sp_check_arrangement vs H Q E0 ∨ sp_check_arrangement_b CR vs H Q E
/-- guests as they can be, and an arrangement that is none of them -/
def sp_wrong (CR : Addr) : Sp := fun vs H _ E => ∃ (BB : Addr → Prop) (a o : Addr) (ts us : List Addr) (gs : List (Int × Int)) (rs : List (List Int)), vs = [.ref a, .ref o] ∧ GsAt H BB a ts gs ∧ Fit gs ∧ gs.length ≤ 1000 ∧ RdAt H o us rs ∧ rs.length ≤ 1000 ∧ ArrRef CR H E (gs.map (·.1)) rs
def sp_upset_x (CG CR : Addr) : Sp := fun vs H Q E => sp_upset vs H Q E0 ∨ (sp_bg CG 1 vs H Q E ∨ sp_wrong CR vs H Q E)
theorem ArrRef.same {CR : Addr} {H H1 : Hp} {E : XK} {ages : List Int} {rs : List (List Int)} (h : ArrRef CR H E ages rs) (k : Same H H1) : ArrRef CR H1 E ages rs := by
  rcases h with ⟨i, hi, q⟩ | ⟨hl, q⟩
  · exact .inl ⟨i, hi, fun H' d s => q H' d (k.trans s)⟩
  · exact .inr ⟨hl, fun H' d s => q H' d (k.trans s)⟩
section
variable {P : Program} {w : World} {K : PySem.W.Frag} {mg : Str → Option Value} {base : Heap}
theorem okx_check_arrangement {CR : Addr} (A : At K mg "check_arrangement" P_check_arrangement s_check_arrangement) (B : Bi mg) (E_NoRoom : OwnW P w K mg base "NoRoom" CR) : DfX P w K mg base 3 "check_arrangement" P_check_arrangement s_check_arrangement (sp_check_arrangement_x CR) :=
  Df.orx (ok_check_arrangement A B) (okb_check_arrangement A B E_NoRoom) (by decide)
theorem okb_upset {CG CR : Addr} (A : At K mg "upset" P_upset s_upset) (B : Bi mg) (XD_patience_by_age : DfX P w K mg base 3 "patience_by_age" P_patience_by_age s_patience_by_age (sp_patience_by_age_x CG))
    (XD_check_arrangement : DfX P w K mg base 3 "check_arrangement" P_check_arrangement s_check_arrangement (sp_check_arrangement_x CR)) (D_eldest_upset : Df P w K mg base 1 "eldest_upset" P_eldest_upset s_eldest_upset sp_eldest_upset) : DfX P w K mg base 4 "upset" P_upset s_upset (fun vs H Q E => sp_bg CG 1 vs H Q E ∨ sp_wrong CR vs H Q E) := by
  refine A.dfx fun f fd F => F.okX sc_upset (fun vs H Q E h => ?_) (fun cdv AA outer s H vs Q E hr h => ?_)
  · rcases h with ⟨_, _, _, _, _, more, rfl, hm, _⟩ | ⟨_, _, _, _, _, _, _, rfl, _⟩
    · rw [List.length_cons, hm]
      rfl
    · rfl
  · have nd := sc_upset.nd
    refine ⟨_, (pss_cons (ps_set (i := 2) nd rfl (.inl rfl) (pe_dfS XD_patience_by_age (takes_of rfl rfl rfl rfl) (hr.mono (by decide)) (by rfl) (pa_cons (pv 0) pa_nil)))
    (pss_cons (ps_expr (pe_dfS XD_check_arrangement (takes_of rfl rfl rfl rfl) (hr.mono (by decide)) (by rfl) (pa_cons (pv 2) (pa_cons (pv 1) pa_nil))))
    (pss_cons (ps_for (passes_of rfl) rfl (pi_enum (by rfl) B.enumerate (pa_cons (pv 1) pa_nil)) (pg_tup (by rfl) (pgs_cons (pg_name (i := 3) nd rfl (.inl rfl)) (pgs_cons (pg_name (i := 4) nd rfl (.inl rfl)) pgs_nil))) (pss_cons (ps_set (i := 5) nd rfl (.inl rfl) (pe_df D_eldest_upset (hr.mono (by decide)) (by rfl) (pa_cons (pv 2) (pa_cons (pv 4) pa_nil)))) (pss_one (ps_if (pt_cmpR op_notN (pv 5) pe_non (nomark _)) (pss_one (ps_ret (pe_tup (pa_cons (pv 3) (pa_cons (pv 5) pa_nil))))) pss_nil))))
    (pss_one (ps_ret pe_non))))), ?_⟩
    rcases h with ⟨BB, a, ts, gs, m, more, rfl, hm, hG, hl, hb, q⟩ | ⟨BB, a, o, ts, us, gs, rs, rfl, hG, hF, hl, hR, hrl, q⟩
    · exact ⟨.ref a, rfl, .inr ⟨BB, a, ts, gs, m, [], rfl, rfl, hG, hl, hb, q⟩⟩
    · refine ⟨.ref a, rfl, .inl ⟨BB, a, ts, gs, rfl, hG, hF, hl, fun H1 d s1 n1 e1 => ?_⟩⟩
      exact ⟨.ref d, rfl, .ref o, rfl, .inr ⟨d, o, us, rs, gs, rfl, e1, hR.same s1, hF.nd, hl, hrl, q.same s1⟩⟩
theorem okx_upset {CG CR : Addr} (A : At K mg "upset" P_upset s_upset) (B : Bi mg) (XD_patience_by_age : DfX P w K mg base 3 "patience_by_age" P_patience_by_age s_patience_by_age (sp_patience_by_age_x CG))
    (XD_check_arrangement : DfX P w K mg base 3 "check_arrangement" P_check_arrangement s_check_arrangement (sp_check_arrangement_x CR)) (D_eldest_upset : Df P w K mg base 1 "eldest_upset" P_eldest_upset s_eldest_upset sp_eldest_upset) (D_upset : Df P w K mg base 2 "upset" P_upset s_upset sp_upset) : DfX P w K mg base 4 "upset" P_upset s_upset (sp_upset_x CG CR) :=
  Df.orx D_upset (okb_upset A B XD_patience_by_age XD_check_arrangement D_eldest_upset) (by decide)
end
end El
namespace El
open PySem PySem.Spec PyProof.Rows L2
def sp_is_best_x (CG CR : Addr) : Sp := fun vs H Q E => sp_is_best vs H Q E0 ∨ (sp_bg CG 1 vs H Q E ∨ sp_wrong CR vs H Q E)
def sp_pairs_x (CG : Addr) : Sp := fun vs H Q E => sp_pairs vs H Q E0 ∨ sp_bg CG 0 vs H Q E
def sp_check_first_x (CS : Addr) : Sp := fun vs H Q E => sp_check_first vs H Q E0 ∨ sp_check_first_b CS vs H Q E
def sp_check_newcomer_x (CG : Addr) : Sp := fun vs H Q E => sp_check_newcomer vs H Q E0 ∨ sp_check_newcomer_b CG vs H Q E
/-- guests as they can be, and a number below 0 -/
def sp_below (CS : Addr) : Sp := fun vs H _ E => ∃ (BB : Addr → Prop) (a : Addr) (ts : List Addr) (gs : List (Int × Int)) (j : Int), vs = [.ref a, .int j] ∧ GsAt H BB a ts gs ∧ Fit gs ∧ gs.length ≤ 1000 ∧ j < 0 ∧ j.natAbs < 10 ^ 200 ∧ ∀ H' d, Same H H' → H' d = some (.xd [(("what" : Str), .int j)]) → E (.ref CS) (some d) H'
/-- guests as they can be, and one more who can't be -/
def sp_odd (CG : Addr) : Sp := fun vs H _ E => ∃ (BB : Addr → Prop) (a : Addr) (ts : List Addr) (gs : List (Int × Int)) (x y : Int), vs = [.ref a, .int x, .int y] ∧ GsAt H BB a ts gs ∧ Fit gs ∧ gs.length ≤ 1000 ∧ (y < 0 ∨ x ∈ gs.map (·.1)) ∧ x.natAbs < 10 ^ 200 ∧ y.natAbs < 10 ^ 200 ∧
  ∀ H' d t, Same H H' → H' d = some (.xd [(("what" : Str), .ref t)]) → H' t = some (.tup [.int x, .int y]) → E (.ref CG) (some d) H'
def sp_sent_away_x (CG CS : Addr) : Sp := fun vs H Q E => sp_sent_away vs H Q E0 ∨ (sp_bg CG 1 vs H Q E ∨ sp_below CS vs H Q E)
def sp_one_more_x (CG : Addr) : Sp := fun vs H Q E => sp_one_more vs H Q E0 ∨ (sp_bg CG 2 vs H Q E ∨ sp_odd CG vs H Q E)
section
variable {P : Program} {w : World} {K : PySem.W.Frag} {mg : Str → Option Value} {base : Heap}
theorem okx_check_first {CS : Addr} (A : At K mg "check_first" P_check_first s_check_first) (E_NoRooms : OwnW P w K mg base "NoRooms" CS) : DfX P w K mg base 3 "check_first" P_check_first s_check_first (sp_check_first_x CS) :=
  Df.orx (ok_check_first A) (okb_check_first A E_NoRooms) (by decide)
theorem okx_check_newcomer {CG : Addr} (A : At K mg "check_newcomer" P_check_newcomer s_check_newcomer) (E_NoGuest : OwnW P w K mg base "NoGuest" CG) : DfX P w K mg base 3 "check_newcomer" P_check_newcomer s_check_newcomer (sp_check_newcomer_x CG) :=
  Df.orx (ok_check_newcomer A) (okb_check_newcomer A E_NoGuest) (by decide)
theorem okb_is_best {CG CR : Addr} (A : At K mg "is_best" P_is_best s_is_best) (B : Bi mg) (XD_upset : DfX P w K mg base 4 "upset" P_upset s_upset (sp_upset_x CG CR)) (D_sizes : Df P w K mg base 3 "sizes" P_sizes s_sizes sp_sizes) : DfX P w K mg base 5 "is_best" P_is_best s_is_best (fun vs H Q E => sp_bg CG 1 vs H Q E ∨ sp_wrong CR vs H Q E) := by
  refine A.dfx fun f fd F => F.okX sc_is_best (fun vs H Q E h => ?_) (fun cdv AA outer s H vs Q E hr h => ?_)
  · rcases h with ⟨_, _, _, _, _, more, rfl, hm, _⟩ | ⟨_, _, _, _, _, _, _, rfl, _⟩
    · rw [List.length_cons, hm]
      rfl
    · rfl
  · have nd := sc_is_best.nd
    refine ⟨_, (pss_cons (ps_if (pt_cmpR op_notN (pe_dfS XD_upset (takes_of rfl rfl rfl rfl) (hr.mono (by decide)) (by rfl) (pa_cons (pv 0) (pa_cons (pv 1) pa_nil))) pe_non (nomark _)) (pss_one (ps_ret pe_bl)) pss_nil)
    (pss_cons (ps_setLc (i := 2) (own := [("room", 3)]) rfl nd rfl rfl (sw_true rfl rfl rfl (by decide +kernel)) (pi_list (pv 1)) (blkOk_by (N := N_is_best) (sc := defScope s_is_best) (by decide +kernel)) (fun _ _ _ _ _ => (pg_name (i := 3) nd rfl (.inl rfl))) (fun _ _ _ _ _ => (pts_one (ptTruthK K (pv 3) (by intro _; rfl)))) (fun _ _ _ _ _ => (pe_callB (lenK K) (by rfl) B.len PySem.boot_len (pa_cons (pv 3) pa_nil))))
    (pss_one (ps_ret (pe_cmpR (op_eqD hr.units) (pe_callBK (cr_sortedRev (b := true)) (by rfl) B.sorted (by decide +kernel) (pa_cons (pv 2) pa_nil) (pk_cons pe_bl pk_nil)) (pe_df D_sizes (hr.mono (by decide)) (by rfl) (pa_cons (pv 0) pa_nil)) (nomark _)))))), ?_⟩
    rcases h with ⟨BB, a, ts, gs, m, more, rfl, hm, hG, hl, hb, q⟩ | ⟨BB, a, o, ts, us, gs, rs, rfl, hG, hF, hl, hR, hrl, q⟩
    · obtain ⟨z, rfl⟩ : ∃ z, more = [z] := List.length_eq_one_iff.mp hm
      exact ⟨.ref a, rfl, z, rfl, .inr (.inl ⟨BB, a, ts, gs, m, [z], rfl, rfl, hG, hl, hb, q⟩)⟩
    · exact ⟨.ref a, rfl, .ref o, rfl, .inr (.inr ⟨BB, a, o, ts, us, gs, rs, rfl, hG, hF, hl, hR, hrl, q⟩)⟩
theorem okx_is_best {CG CR : Addr} (A : At K mg "is_best" P_is_best s_is_best) (B : Bi mg) (XD_upset : DfX P w K mg base 4 "upset" P_upset s_upset (sp_upset_x CG CR)) (D_sizes : Df P w K mg base 3 "sizes" P_sizes s_sizes sp_sizes) (D_is_best : Df P w K mg base 4 "is_best" P_is_best s_is_best sp_is_best) : DfX P w K mg base 5 "is_best" P_is_best s_is_best (sp_is_best_x CG CR) :=
  Df.orx D_is_best (okb_is_best A B XD_upset D_sizes) (by decide)
theorem okb_pairs {CG : Addr} (A : At K mg "pairs" P_pairs s_pairs) (B : Bi mg) (XD_sizes : DfX P w K mg base 5 "sizes" P_sizes s_sizes (sp_sizes_x CG)) : DfX P w K mg base 6 "pairs" P_pairs s_pairs (sp_bg CG 0) := by
  refine A.dfx fun f fd F => F.okX sc_pairs (fun vs H Q E h => ?_) (fun cdv AA outer s H vs Q E hr h => ?_)
  · obtain ⟨_, _, _, _, _, more, rfl, hm, _⟩ := h
    rw [List.length_cons, hm]
    rfl
  · obtain ⟨BB, a, ts, gs, m, more, rfl, hm, hG, hl, hb, q⟩ := h
    obtain rfl := List.eq_nil_of_length_eq_zero hm
    have nd := sc_pairs.nd
    refine ⟨_, (pss_one (ps_ret (pe_callB (cr_sum rfl) (by rfl) B.sum (by decide +kernel) (pa_cons (pe_lc (own := [("size", 1)]) (tt := tYes) rfl nd (pi_list (pe_dfS XD_sizes (takes_of rfl rfl rfl rfl) (hr.mono (by decide)) (by rfl) (pa_cons (pv 0) pa_nil))) (blkOk_by (N := N_pairs) (sc := defScope s_pairs) (by decide +kernel)) (fun _ _ _ _ _ => (pg_name (i := 1) nd rfl (.inl rfl))) (fun _ _ _ _ _ => pts_nil) (fun _ _ _ _ _ => (pe_op op_fdivW (pe_op op_mul (pv 1) (pe_op op_sub (pv 1) pe_int)) pe_int))) pa_nil)))), ?_⟩
    exact ⟨.ref a, rfl, .inr ⟨BB, a, ts, gs, m, [], rfl, rfl, hG, hl, hb, q⟩⟩
theorem okx_pairs {CG : Addr} (A : At K mg "pairs" P_pairs s_pairs) (B : Bi mg) (XD_sizes : DfX P w K mg base 5 "sizes" P_sizes s_sizes (sp_sizes_x CG)) (D_pairs : Df P w K mg base 4 "pairs" P_pairs s_pairs sp_pairs) : DfX P w K mg base 6 "pairs" P_pairs s_pairs (sp_pairs_x CG) :=
  Df.orx D_pairs (okb_pairs A B XD_sizes) (by decide)
theorem okb_sent_away {CG CS : Addr} (A : At K mg "sent_away" P_sent_away s_sent_away) (B : Bi mg) (XD_rooms : DfX P w K mg base 4 "rooms" P_rooms s_rooms (sp_rooms_x CG)) (XD_check_first : DfX P w K mg base 3 "check_first" P_check_first s_check_first (sp_check_first_x CS)) :
    DfX P w K mg base 5 "sent_away" P_sent_away s_sent_away (fun vs H Q E => sp_bg CG 1 vs H Q E ∨ sp_below CS vs H Q E) := by
  refine A.dfx fun f fd F => F.okX sc_sent_away (fun vs H Q E h => ?_) (fun cdv AA outer s H vs Q E hr h => ?_)
  · rcases h with ⟨_, _, _, _, _, more, rfl, hm, _⟩ | ⟨_, _, _, _, _, rfl, _⟩
    · rw [List.length_cons, hm]
      rfl
    · rfl
  · have nd := sc_sent_away.nd
    refine ⟨_, (pss_cons (ps_set (i := 2) nd rfl (.inl rfl) (pe_dfS XD_rooms (takes_of rfl rfl rfl rfl) (hr.mono (by decide)) (by rfl) (pa_cons (pv 0) pa_nil)))
    (pss_cons (ps_expr (pe_dfS XD_check_first (takes_of rfl rfl rfl rfl) (hr.mono (by decide)) (by rfl) (pa_cons (pv 1) pa_nil)))
    (pss_one (ps_ret (pe_callBK (cr_sortedRev (b := true)) (by rfl) B.sorted (by decide +kernel) (pa_cons (pe_lc2 (own := [("room", 3), ("age", 4)]) (vs1 := [4]) (tt := tYes) (tt1 := tYes) rfl nd (pi_list (pe_slice sl_list (pv 2) (po_some (pv 1)) po_none)) (blkOk_by (N := N_sent_away) (sc := defScope s_sent_away) (by decide +kernel)) (by decide) (fun _ _ _ _ _ => (pg_name (i := 3) nd rfl (.inl rfl))) (fun _ _ _ _ _ => pts_nil) (fun _ _ _ _ _ => (piListK K (pv 3))) (fun _ _ _ _ _ => (pg_name (i := 4) nd rfl (.inl rfl))) (fun _ _ _ _ _ => pts_nil) (fun _ _ _ _ _ => (pv 4))) pa_nil) (pk_cons pe_bl pk_nil)))))), ?_⟩
    rcases h with ⟨BB, a, ts, gs, m, more, rfl, hm, hG, hl, hb, q⟩ | ⟨BB, a, ts, gs, j, rfl, hG, hF, hl, hj, hj2, q⟩
    · exact ⟨.ref a, rfl, .inr ⟨BB, a, ts, gs, m, [], rfl, rfl, hG, hl, hb, q⟩⟩
    · refine ⟨.ref a, rfl, .inl ⟨BB, a, ts, gs, rfl, hG, hF, hl, fun H1 o us s1 hR => ?_⟩⟩
      exact ⟨.int j, rfl, .inr ⟨j, rfl, hj2, hj, fun H' d s => q H' d (s1.trans s)⟩⟩
theorem okx_sent_away {CG CS : Addr} (A : At K mg "sent_away" P_sent_away s_sent_away) (B : Bi mg) (XD_rooms : DfX P w K mg base 4 "rooms" P_rooms s_rooms (sp_rooms_x CG)) (XD_check_first : DfX P w K mg base 3 "check_first" P_check_first s_check_first (sp_check_first_x CS))
    (D_sent_away : Df P w K mg base 3 "sent_away" P_sent_away s_sent_away sp_sent_away) : DfX P w K mg base 5 "sent_away" P_sent_away s_sent_away (sp_sent_away_x CG CS) :=
  Df.orx D_sent_away (okb_sent_away A B XD_rooms XD_check_first) (by decide)
theorem okb_one_more {CG : Addr} (A : At K mg "one_more" P_one_more s_one_more) (B : Bi mg) (XD_patience_by_age : DfX P w K mg base 3 "patience_by_age" P_patience_by_age s_patience_by_age (sp_patience_by_age_x CG))
    (XD_check_newcomer : DfX P w K mg base 3 "check_newcomer" P_check_newcomer s_check_newcomer (sp_check_newcomer_x CG)) (D_sizes : Df P w K mg base 3 "sizes" P_sizes s_sizes sp_sizes) : DfX P w K mg base 4 "one_more" P_one_more s_one_more (fun vs H Q E => sp_bg CG 2 vs H Q E ∨ sp_odd CG vs H Q E) := by
  refine A.dfx fun f fd F => F.okX sc_one_more (fun vs H Q E h => ?_) (fun cdv AA outer s H vs Q E hr h => ?_)
  · rcases h with ⟨_, _, _, _, _, more, rfl, hm, _⟩ | ⟨_, _, _, _, _, _, rfl, _⟩
    · rw [List.length_cons, hm]
      rfl
    · rfl
  · have nd := sc_one_more.nd
    refine ⟨_, (pss_cons (ps_expr (pe_dfS XD_check_newcomer (takes_of rfl rfl rfl rfl) (hr.mono (by decide)) (by rfl) (pa_cons (pe_dfS XD_patience_by_age (takes_of rfl rfl rfl rfl) (hr.mono (by decide)) (by rfl) (pa_cons (pv 0) pa_nil)) (pa_cons (pv 1) (pa_cons (pv 2) pa_nil)))))
    (pss_cons (ps_set (i := 3) nd rfl (.inl rfl) (pe_df D_sizes (hr.mono (by decide)) (by rfl) (pa_cons (pv 0) pa_nil)))
    (pss_cons (ps_set (i := 4) nd rfl (.inl rfl) (pe_df D_sizes (hr.mono (by decide)) (by rfl) (pa_cons (pe_lst (StX.pa_star (pv 0) (pa_cons (pe_tup (pa_cons (pv 1) (pa_cons (pv 2) pa_nil))) pa_nil))) pa_nil)))
    (pss_cons (ps_for (passes_of rfl) rfl (pi_enum (by rfl) B.enumerate (pa_cons (pv 3) pa_nil)) (pg_tup (by rfl) (pgs_cons (pg_name (i := 5) nd rfl (.inl rfl)) (pgs_cons (pg_name (i := 6) nd rfl (.inl rfl)) pgs_nil))) (pss_one (ps_if (pt_cmpR op_gt (pe_ix ix_list (pv 4) (pv 5) (fun _ _ => rfl)) (pv 6) (nomark _)) (pss_one (ps_ret (pv 5))) pss_nil)))
    (pss_one (ps_ret (pe_callB call_len_seq (by rfl) B.len PySem.boot_len (pa_cons (pv 3) pa_nil)))))))), ?_⟩
    rcases h with ⟨BB, a, ts, gs, m, more, rfl, hm, hG, hl, hb, q⟩ | ⟨BB, a, ts, gs, x, y, rfl, hG, hF, hl, hb, hx, hy, q⟩
    · exact ⟨.ref a, rfl, .inr ⟨BB, a, ts, gs, m, [], rfl, rfl, hG, hl, hb, q⟩⟩
    · refine ⟨.ref a, rfl, .inl ⟨BB, a, ts, gs, rfl, hG, hF, hl, fun H1 d s1 n1 e1 => ?_⟩⟩
      exact ⟨.int x, rfl, .int y, rfl, .inr ⟨d, gs, x, y, rfl, e1, hb, hF.nd, hx, hy, fun H' d' t s => q H' d' t (s1.trans s)⟩⟩
theorem okx_one_more {CG : Addr} (A : At K mg "one_more" P_one_more s_one_more) (B : Bi mg) (XD_patience_by_age : DfX P w K mg base 3 "patience_by_age" P_patience_by_age s_patience_by_age (sp_patience_by_age_x CG))
    (XD_check_newcomer : DfX P w K mg base 3 "check_newcomer" P_check_newcomer s_check_newcomer (sp_check_newcomer_x CG)) (D_sizes : Df P w K mg base 3 "sizes" P_sizes s_sizes sp_sizes) (D_one_more : Df P w K mg base 4 "one_more" P_one_more s_one_more sp_one_more) : DfX P w K mg base 4 "one_more" P_one_more s_one_more (sp_one_more_x CG) :=
  Df.orx D_one_more (okb_one_more A B XD_patience_by_age XD_check_newcomer D_sizes) (by decide)
end
end El
namespace El
open PySem PySem.Spec PyProof.Rows L2
/-! ### the bag of draws -/
def bagL (g : Addr) (l t f : Int) : List (L2.Key × V) := [(Sum.inr "great", .ref g), (Sum.inr "left", .int l), (Sum.inr "turn", .int t), (Sum.inr "fold", .int f)]
theorem bag_great {H : Hp} {b g : Addr} {l t f : Int} (h : H b = some (.dK (bagL g l t f))) : DGet H b (.str "great") (some (.ref g)) := DGet.k (k := Sum.inr "great") h
theorem bag_left {H : Hp} {b g : Addr} {l t f : Int} (h : H b = some (.dK (bagL g l t f))) : DGet H b (.str "left") (some (.int l)) := DGet.k (k := Sum.inr "left") h
theorem bag_turn {H : Hp} {b g : Addr} {l t f : Int} (h : H b = some (.dK (bagL g l t f))) : DGet H b (.str "turn") (some (.int t)) := DGet.k (k := Sum.inr "turn") h
theorem bag_fold {H : Hp} {b g : Addr} {l t f : Int} (h : H b = some (.dK (bagL g l t f))) : DGet H b (.str "fold") (some (.int f)) := DGet.k (k := Sum.inr "fold") h
theorem bag_putLeft {H : Hp} {b g : Addr} {l t f z : Int} (h : H b = some (.dK (bagL g l t f))) : DPut H b (.str "left") (.int z) (upd H b (.dK (bagL g z t f))) := DPut.k (k := Sum.inr "left") (v := .int z) h (by show 4 < sizeLine; decide)
theorem bag_putTurn {H : Hp} {b g : Addr} {l t f z : Int} (h : H b = some (.dK (bagL g l t f))) : DPut H b (.str "turn") (.int z) (upd H b (.dK (bagL g l z f))) := DPut.k (k := Sum.inr "turn") (v := .int z) h (by show 4 < sizeLine; decide)
def Off (t g : Addr) (b : Addr) : Prop := b ≠ t ∧ b ≠ g
theorem Kp.off {H H' : Hp} {t g p : Addr} {o : HO} (e : Kp (Off t g) H H') (h : p = t ∨ p = g) : Kp (Off t g) H (upd H' p o) := e.mut fun z => by
  rcases h with rfl | rfl
  · exact z.1 rfl
  · exact z.2 rfl
structure Bag (H : Hp) (b g : Addr) (n : Nat) : Prop where
  ne : b ≠ g
  ex : ∃ (gs : List Int) (l t f : Int), H b = some (.dK (bagL g l t f)) ∧ H g = some (.lst (gs.map V.int)) ∧ (∀ x ∈ gs, 0 ≤ x) ∧ gs.length ≤ 63 ∧ 0 ≤ l ∧ 0 ≤ t ∧ t ≤ n ∧ 0 ≤ f ∧ f < 2305843009213693951
theorem Bag.keep {H H' : Hp} {b g : Addr} {n : Nat} (h : Bag H b g n) (k : Same H H') : Bag H' b g n := by
  obtain ⟨gs, l, t, f, h1, h2, h3⟩ := h.ex
  exact ⟨h.ne, gs, l, t, f, k _ _ h1, k _ _ h2, h3⟩
theorem Bag.more {H : Hp} {b g : Addr} {n m : Nat} (h : Bag H b g n) (k : n ≤ m) : Bag H b g m := by
  obtain ⟨gs, l, t, f, h1, h2, h3, h4, h5, h6, h7, h8⟩ := h.ex
  exact ⟨h.ne, gs, l, t, f, h1, h2, h3, h4, h5, h6, by omega, h8⟩
theorem Bag.off {H : Hp} {b g : Addr} {n : Nat} (h : Bag H b g n) {p : Addr} (e : H p = none) : Off b g p := by
  obtain ⟨gs, l, t, f, h1, h2, _⟩ := h.ex
  exact ⟨no_of h1 e, no_of h2 e⟩
theorem Bag.mut {H : Hp} {b g : Addr} {n : Nat} (h : Bag H b g n) {p : Addr} {o : HO} (k : Off b g p) : Bag (upd H p o) b g n := by
  obtain ⟨gs, l, t, f, h1, h2, h3⟩ := h.ex
  exact ⟨h.ne, gs, l, t, f, by rw [upd_ne k.1.symm]; exact h1, by rw [upd_ne k.2.symm]; exact h2, h3⟩
end El
namespace El
open PySem PySem.Spec PyProof.Rows L2
section
variable {P : Program} {w : World} {K : PySem.W.Frag} {mg : Str → Option Value} {base : Heap}
abbrev s__law_bag : Stmt := topS 24
abbrev N__law_bag : List Str := ["script", "fold", "great", "cell"]
abbrev P__law_bag : List Str := ["script"]
theorem sc__law_bag : FnScope N__law_bag P__law_bag (defScope s__law_bag) := ⟨rfl, rfl, rfl, by decide +kernel, rfl, by decide +kernel, by decide +kernel⟩
def sp__law_bag (K : PySem.W.Frag) : Sp := fun vs H Q _ => ∃ (a : Addr) (ns : List Int), vs = [.ref a] ∧ SqL K H a (ns.map V.int) ∧ ns.length ≤ 63 ∧
  ∀ H' b g, Same H H' → H b = none → H g = none → Bag H' b g 0 → Q (.ref b) H'
theorem ok__law_bag (A : At K mg "_law_bag" P__law_bag s__law_bag) (B : Bi mg) : Df P w K mg base 1 "_law_bag" P__law_bag s__law_bag (sp__law_bag K) := by
  refine A.df fun f fd F => F.ok sc__law_bag (fun vs H Q E h => ?_) (fun cdv AA outer s H vs Q E hr h => ?_)
  · obtain ⟨a, _, rfl, _⟩ := h
    rfl
  · obtain ⟨a, ns, rfl, hS, hl, q⟩ := h
    have nd := sc__law_bag.nd
    refine ⟨_, (pss_cons (ps_par (i := 1) (j := 2) (by rfl) nd rfl rfl (by decide) rfl rfl (pa_cons pe_int (pa_cons (pe_lst pa_nil) pa_nil)) (by rfl))
    (pss_cons (ps_for PassesOwn.never rfl (pi_list (pv 0)) (pg_name (i := 3) nd rfl (.inl rfl)) (pss_cons (ps_set (i := 1) nd rfl (.inl rfl) (pe_op op_mod (pe_op op_add (pe_op op_mul (pv 1) pe_int) (pv 3)) pe_int)) (pss_one (ps_if (pt_cmpR op_ge (pe_callB call_abs (by rfl) B.abs (by decide +kernel) (pa_cons (pv 3) pa_nil)) (pe_op op_pow pe_int pe_int) (nomark _)) (pss_one (ps_expr (pe_bm PySem.F.plainAttrs_list PySem.F.slot_list_append PySem.F.type_list_append mt_append (pv 2) (pa_cons (pe_callB call_abs (by rfl) B.abs (by decide +kernel) (pa_cons (pv 3) pa_nil)) pa_nil)))) pss_nil))))
    (pss_one (ps_ret (pe_disp (pps_cons pe_str (pv 2) (pps_cons pe_str pe_int (pps_cons pe_str pe_int (pps_cons pe_str (pv 1) pps_nil)))) (by rfl) (by rfl) (fun z => by cases z) (by decide)))))), ?_⟩
    refine ⟨Nat.zero_le _, fun g ng => ⟨_, _, rfl, ?_⟩⟩
    refine ⟨.ref a, rfl, a, rfl, ⟨_, (same_new ng).seq hS⟩, ?_⟩
    refine for_it (walk_list (xs := ns.map V.int)) (fun i σ H2 => ∃ (c : Int) (gs : List Int) (y3 : Option V), σ = [some (.ref a), some (.int c), some (.ref g), y3] ∧ Same H H2 ∧ H2 g = some (.lst (gs.map V.int)) ∧ (∀ x ∈ gs, 0 ≤ x) ∧ gs.length ≤ i ∧ 0 ≤ c ∧ c < 2305843009213693951)
      ⟨11, [], none, rfl, same_new ng, upd_same, fun x h => absurd h (by simp), Nat.le_refl _, by decide, by decide⟩ (fun i σ H2 _ hW => ?_) (fun i x σ H2 H3 hi hW hY => ?_) (fun σ H2 hW => ?_)
    · obtain ⟨_, _, _, _, sm, _⟩ := hW
      exact sm.seq hS
    · obtain ⟨c, gs, y3, rfl, sm, eg, hp, hgl, c0, c1⟩ := hW
      obtain ⟨rfl, hx⟩ := hY
      obtain ⟨n, hx', rfl⟩ := ints_at hx
      have hil : i < 63 := by
        rw [List.length_map] at hi
        omega
      refine ⟨.int c, rfl, _, _, rfl, rfl, .inl ⟨by omega, by omega⟩, .int n, rfl, _, _, rfl, rfl, _, _, rfl, rfl, (by show (0 : Int) < 2305843009213693951; decide), ?_⟩
      have f0 : 0 ≤ (c * 1000003 + n) % 2305843009213693951 := Int.emod_nonneg _ (by decide)
      have f1 : (c * 1000003 + n) % 2305843009213693951 < 2305843009213693951 := Int.emod_lt_of_pos _ (by decide)
      refine ⟨.int n, rfl, _, rfl, _, _, rfl, rfl, ⟨by decide, by decide, by decide⟩, _, _, rfl, rfl, _, rfl, ite2 (fun e => ?_) (fun e => ?_)⟩
      · have m0 : 0 ≤ (if n < 0 then -n else n) := by split <;> omega
        refine ⟨.ref g, rfl, .inl ⟨rfl, _, SqL.of eg⟩, .int n, rfl, _, rfl, g, _, _, rfl, rfl, eg, ils (by rw [List.length_map]; omega), ?_⟩
        refine ⟨_, gs ++ [if n < 0 then -n else n], _, rfl, Same.mut sm ng, by rw [upd_same, List.map_append]; rfl, fun x hx => ?_, by rw [List.length_append, List.length_singleton]; omega, f0, f1⟩
        rcases List.mem_append.mp hx with hx | hx
        · exact hp x hx
        · rw [List.mem_singleton.mp hx]
          exact m0
      · exact ⟨_, gs, _, rfl, sm, eg, hp, Nat.le_succ_of_le hgl, f0, f1⟩
    · obtain ⟨c, gs, y3, rfl, sm, eg, hp, hgl, c0, c1⟩ := hW
      rw [List.length_map] at hgl
      refine fun b nb => ⟨.ref g, rfl, .int c, rfl, upd_same, [(Sum.inr "great", .ref g), (Sum.inr "left", .int 0), (Sum.inr "turn", .int 0), (Sum.inr "fold", .int c)], rfl, (by show 4 ≤ 15; decide), ?_⟩
      have nbg : g ≠ b := ne_of_none eg nb
      rw [upd_upd]
      exact q _ b g (sm.trans (same_new nb)) (sm.free nb) ng ⟨nbg.symm, gs, 0, 0, c, upd_same, by rw [upd_ne nbg]; exact eg, hp, by omega, by decide, by decide, by decide, c0, c1⟩
end
end El
namespace El
open PySem PySem.Spec PyProof.Rows L2
section
variable {P : Program} {w : World} {K : PySem.W.Frag} {mg : Str → Option Value} {base : Heap}
abbrev s__law_draw : Stmt := topS 25
abbrev N__law_draw : List Str := ["bag", "many", "drawn", "turn", "mixed"]
abbrev P__law_draw : List Str := ["bag", "many"]
theorem sc__law_draw : FnScope N__law_draw P__law_draw (defScope s__law_draw) := ⟨rfl, rfl, rfl, by decide +kernel, rfl, by decide +kernel, by decide +kernel⟩
def sp__law_draw : Sp := fun vs H Q _ => ∃ (b g : Addr) (n : Nat) (m : Int), vs = [.ref b, .int m] ∧ Bag H b g n ∧ n ≤ 1000000000 ∧ 0 < m ∧ m < 2 ^ 200 ∧
  ∀ H' r, Kp (Off b g) H H' → Bag H' b g (n + 1) → 0 ≤ r → r < m → Q (.int r) H'
theorem ok__law_draw (A : At K mg "_law_draw" P__law_draw s__law_draw) (B : Bi mg) : Df P w K mg base 1 "_law_draw" P__law_draw s__law_draw sp__law_draw := by
  refine A.df fun f fd F => F.ok sc__law_draw (fun vs H Q E h => ?_) (fun cdv AA outer s H vs Q E hr h => ?_)
  · obtain ⟨_, _, _, _, rfl, _⟩ := h
    rfl
  · obtain ⟨b, g, n, m, rfl, hT, hn, m0, m1, q⟩ := h
    have nd := sc__law_draw.nd
    refine ⟨_, (pss_cons (ps_if (PW.pt (pw_and (pt_cmpR op_lt (pe_dget (hu_of hr) (pv 0) pe_str (fun _ _ => rfl)) (pv 1) (nomark _)) (pw_and1 (pt_cmpR op_gt (pe_callB call_len_seq (by rfl) B.len PySem.boot_len (pa_cons (pe_dget (hu_of hr) (pv 0) pe_str (fun _ _ => rfl)) pa_nil)) pe_int (nomark _))))) (pss_one (ps_dput (hu_of hr) (pv 0) pe_str (pe_bm PySem.F.plainAttrs_list PySem.F.slot_list_pop PySem.F.type_list_pop mt_popAt (pe_dget (hu_of hr) (pv 0) pe_str (fun _ _ => rfl)) (pa_cons pe_int pa_nil)) rfl)) pss_nil)
    (pss_cons (ps_if (pt_cmpR op_ge (pe_dget (hu_of hr) (pv 0) pe_str (fun _ _ => rfl)) (pv 1) (nomark _)) (pss_cons (ps_set (i := 2) nd rfl (.inl rfl) (pe_op op_mod (pe_dget (hu_of hr) (pv 0) pe_str (fun _ _ => rfl)) (pv 1))) (pss_cons (ps_dput (hu_of hr) (pv 0) pe_str (pe_op op_fdivW (pe_dget (hu_of hr) (pv 0) pe_str (fun _ _ => rfl)) (pv 1)) rfl) (pss_one (ps_ret (pv 2))))) pss_nil)
    (pss_cons (ps_daug (hu_of hr) (pv 0) pe_str pe_int in_add (fun _ _ _ => rfl))
    (pss_cons (ps_set (i := 3) nd rfl (.inl rfl) (pe_dget (hu_of hr) (pv 0) pe_str (fun _ _ => rfl)))
    (pss_cons (ps_set (i := 4) nd rfl (.inl rfl) (pe_op op_add (pe_op op_mul (pe_op op_add (pe_dget (hu_of hr) (pv 0) pe_str (fun _ _ => rfl)) (pe_op op_mul pe_int (pv 3))) (pe_op op_pow (pe_op op_add (pv 3) pe_int) pe_int)) (pe_op op_mul pe_int (pv 3))))
    (pss_one (ps_ret (pe_op op_mod (pe_op op_fdivW (pe_op op_mod (pe_op op_pow (pe_op op_mod (pv 4) pe_int) pe_int) (pe_op op_add (pe_op op_pow pe_int pe_int) pe_int)) pe_int) (pv 1))))))))), ?_⟩
    have ne := hT.ne
    refine seq_to (fun σ H2 => σ = [some (.ref b), some (.int m), none, none, none] ∧ Kp (Off b g) H H2 ∧ Bag H2 b g n) (fun X hX => ?_) (fun σ H2 hE => ?_)
    · obtain ⟨gs, l, t, f, j1, j2, j3, j4, j5, j6, j7, j8, j9⟩ := hT.ex
      refine ⟨.ref b, rfl, b, _, rfl, bag_left j1, .int m, rfl, _, _, rfl, rfl, _, rfl, ite2 (fun ea => ?_) (fun ea => ?_)⟩
      · refine ⟨.ref b, rfl, b, _, rfl, bag_great j1, g, _, rfl, .inl (SqL.of j2), _, _, rfl, rfl, _, rfl, ite2 (fun eb => ?_) (fun eb => ?_)⟩
        · have eb : (0 : Int) < ((gs.map V.int).length : Int) := of_decide_eq_true eb
          rw [List.length_map] at eb
          cases gs with
          | nil => exact absurd eb (by decide)
          | cons x r =>
            refine ⟨.ref b, rfl, b, _, rfl, bag_great j1, .inl ⟨rfl, _, SqL.of j2⟩, g, _, 0, 0, .int x, rfl, rfl, j2, by decide, by decide, seq_ix (j := 0) (by simp), rfl, ?_⟩
            refine ⟨.ref b, rfl, b, _, rfl, bag_putLeft (by rw [upd_ne ne]; exact j1), ?_⟩
            exact hX _ _ ⟨rfl, Kp.off (Kp.off Kp.refl (.inr rfl)) (.inl rfl), ne, r, x, t, f, upd_same, by rw [upd_ne ne.symm, upd_same]; rfl, fun y hy => j3 y (List.mem_cons_of_mem _ hy), Nat.le_of_succ_le j4, j3 x List.mem_cons_self, j6, j7, j8, j9⟩
        · exact hX _ _ ⟨rfl, Kp.refl, hT⟩
      · exact iteF (hX _ _ ⟨rfl, Kp.refl, hT⟩)
    · obtain ⟨rfl, kp, hT2⟩ := hE
      obtain ⟨gs, l, t, f, j1, j2, j3, j4, j5, j6, j7, j8, j9⟩ := hT2.ex
      have g1 : CDivW l m := ⟨m0, Nat.lt_trans (log_lt m0 m1) (by decide)⟩
      refine ⟨.ref b, rfl, b, _, rfl, bag_left j1, .int m, rfl, _, _, rfl, rfl, _, rfl, ite2 (fun ea => ?_) (fun ea => ?_)⟩
      · refine ⟨.ref b, rfl, b, _, rfl, bag_left j1, .int m, rfl, _, _, rfl, rfl, m0, ?_⟩
        refine ⟨.ref b, rfl, b, _, rfl, bag_left j1, .int m, rfl, _, _, rfl, rfl, g1, .ref b, rfl, b, _, rfl, bag_putLeft j1, _, rfl, ?_⟩
        exact q _ _ (Kp.off kp (.inl rfl)) ⟨ne, gs, l / m, t, f, upd_same, by rw [upd_ne ne.symm]; exact j2, j3, j4, Int.ediv_nonneg j5 (by omega), j6, by omega, j8, j9⟩ (Int.emod_nonneg _ (by omega)) (Int.emod_lt_of_pos _ m0)
      · refine ⟨.ref b, rfl, b, _, rfl, bag_turn j1, _, _, rfl, rfl, _, bag_putTurn j1, ?_⟩
        have e1 : upd H2 b (.dK (bagL g l (t + 1) f)) b = some (.dK (bagL g l (t + 1) f)) := upd_same
        have hT3 : Bag (upd H2 b (.dK (bagL g l (t + 1) f))) b g (n + 1) := ⟨ne, gs, l, t + 1, f, e1, by rw [upd_ne ne.symm]; exact j2, j3, j4, j5, by omega, by omega, j8, j9⟩
        have k3 : Kp (Off b g) H (upd H2 b (.dK (bagL g l (t + 1) f))) := Kp.off kp (.inl rfl)
        revert e1 hT3 k3
        generalize upd H2 b (.dK (bagL g l (t + 1) f)) = H3
        intro e1 hT3 k3
        refine ⟨.ref b, rfl, b, _, rfl, bag_turn e1, ?_⟩
        refine ⟨.ref b, rfl, b, _, rfl, bag_fold e1, .int (t + 1), rfl, _, _, rfl, rfl, .inl ⟨by decide, by decide⟩, _, _, rfl, rfl, .int (t + 1), rfl, _, _, rfl, rfl, _, _, rfl, rfl, ⟨by decide, by decide, ?_⟩, _, _, rfl, rfl, .inl ⟨by omega, by omega⟩, .int (t + 1), rfl, _, _, rfl, rfl, .inl ⟨by decide, by decide⟩, _, _, rfl, rfl, ?_⟩
        · show (t + 1 + 29).natAbs < 2 ^ 64
          omega
        · refine ⟨_, rfl, _, _, rfl, rfl, (by show (0 : Int) < 2305843009213693951; decide), _, _, rfl, rfl, ⟨by decide, by decide, ?_⟩, _, _, rfl, rfl, ⟨by decide, by decide, by decide⟩, _, _, rfl, rfl, _, _, rfl, rfl, (by show (0 : Int) < 10 ^ 18 + 9; decide), _, _, rfl, rfl, ⟨by decide, by decide⟩, .int m, rfl, _, _, rfl, rfl, m0, ?_⟩
          · have f0 := Int.emod_nonneg ((f + 17 * (t + 1)) * (t + 1 + 29) ^ (2 : Int).toNat + 7919 * (t + 1)) (show (2305843009213693951 : Int) ≠ 0 by decide)
            have f1 := Int.emod_lt_of_pos ((f + 17 * (t + 1)) * (t + 1 + 29) ^ (2 : Int).toNat + 7919 * (t + 1)) (show (0 : Int) < 2305843009213693951 by decide)
            show (((f + 17 * (t + 1)) * (t + 1 + 29) ^ (2 : Int).toNat + 7919 * (t + 1)) % 2305843009213693951).natAbs < 2 ^ 64
            omega
          · exact q _ _ k3 hT3 (Int.emod_nonneg _ (by omega)) (Int.emod_lt_of_pos _ m0)
end
end El
namespace El
open PySem PySem.Spec PyProof.Rows L2
section
variable {P : Program} {w : World} {K : PySem.W.Frag} {mg : Str → Option Value} {base : Heap}
abbrev s__law_guests : Stmt := topS 26
abbrev N__law_guests : List Str := ["bag", "most", "many", "far", "years", "found", "k", "bears"]
abbrev P__law_guests : List Str := ["bag", "most"]
theorem sc__law_guests : FnScope N__law_guests P__law_guests (defScope s__law_guests) := ⟨rfl, rfl, rfl, by decide +kernel, rfl, by decide +kernel, by decide +kernel⟩
def sp__law_guests : Sp := fun vs H Q _ => ∃ (b g : Addr) (n most : Nat), vs = [.ref b, .int (most : Int)] ∧ Bag H b g n ∧ most ≤ 60 ∧ n ≤ 800000000 ∧
  ∀ H' o ts gs, Kp (Off b g) H H' → Bag H' b g (n + 500) → GsAt H' (fun b => H b = none) o ts gs → o ∉ ts → Fit gs → gs.length ≤ most → (∀ x ∈ gs, x.1.natAbs < 10 ^ 200) → Q (.ref o) H'
theorem ok__law_guests (A : At K mg "_law_guests" P__law_guests s__law_guests) (B : Bi mg) (D__law_draw : Df P w K mg base 1 "_law_draw" P__law_draw s__law_draw sp__law_draw) : Df P w K mg base 2 "_law_guests" P__law_guests s__law_guests sp__law_guests := by
  refine A.df fun f fd F => F.ok sc__law_guests (fun vs H Q E h => ?_) (fun cdv AA outer s H vs Q E hr h => ?_)
  · obtain ⟨_, _, _, _, rfl, _⟩ := h
    rfl
  · obtain ⟨t, g, n, most, rfl, hT, hm, hn, q⟩ := h
    have nd := sc__law_guests.nd
    refine ⟨_, (pss_cons (ps_par (i := 2) (j := 3) (by rfl) nd rfl rfl (by decide) rfl rfl (pa_cons (pe_df D__law_draw (hr.mono (by decide)) (by rfl) (pa_cons (pv 0) (pa_cons (pe_op op_add (pv 1) pe_int) pa_nil))) (pa_cons (pe_ix ix_tup (pe_tup (pa_cons pe_int (pa_cons (pe_op op_pow pe_int pe_int) pa_nil))) (pe_op op_fdivW (pe_df D__law_draw (hr.mono (by decide)) (by rfl) (pa_cons (pv 0) (pa_cons pe_int pa_nil))) pe_int) (fun _ _ => rfl)) pa_nil)) (by rfl))
    (pss_cons (ps_par (i := 4) (j := 5) (by rfl) nd rfl rfl (by decide) rfl rfl (pa_cons (pe_op op_sub (pe_df D__law_draw (hr.mono (by decide)) (by rfl) (pa_cons (pv 0) (pa_cons pe_int pa_nil))) pe_int) (pa_cons (pe_lst pa_nil) pa_nil)) (by rfl))
    (pss_cons (ps_for PassesOwn.never rfl (pi_range1 (by rfl) B.range (pa_cons (pv 2) pa_nil)) (pg_name (i := 6) nd rfl (.inl rfl)) (pss_cons (ps_set (i := 4) nd rfl (.inl rfl) (pe_op op_add (pe_op op_add (pv 4) pe_int) (pe_op op_fdivW (pe_df D__law_draw (hr.mono (by decide)) (by rfl) (pa_cons (pv 0) (pa_cons (pv 3) pa_nil))) (pe_op op_add (pv 1) pe_int)))) (pss_cons (ps_set (i := 7) nd rfl (.inl rfl) (pe_ix ix_tup (pe_tup (pa_cons pe_int (pa_cons (pe_df D__law_draw (hr.mono (by decide)) (by rfl) (pa_cons (pv 0) (pa_cons pe_int pa_nil))) (pa_cons (pe_df D__law_draw (hr.mono (by decide)) (by rfl) (pa_cons (pv 0) (pa_cons pe_int pa_nil))) (pa_cons (pe_ix ix_tup (pe_tup (pa_cons (pv 2) (pa_cons (pe_op op_pow pe_int pe_int) pa_nil))) (pe_df D__law_draw (hr.mono (by decide)) (by rfl) (pa_cons (pv 0) (pa_cons pe_int pa_nil))) (fun _ _ => rfl)) pa_nil))))) (pe_df D__law_draw (hr.mono (by decide)) (by rfl) (pa_cons (pv 0) (pa_cons pe_int pa_nil))) (fun _ _ => rfl))) (pss_one (ps_expr (pe_bm PySem.F.plainAttrs_list PySem.F.slot_list_insert PySem.F.type_list_insert mt_insert (pv 5) (pa_cons (pe_df D__law_draw (hr.mono (by decide)) (by rfl) (pa_cons (pv 0) (pa_cons (pe_op op_add (pe_callB call_len_seq (by rfl) B.len PySem.boot_len (pa_cons (pv 5) pa_nil)) pe_int) pa_nil))) (pa_cons (pe_tup (pa_cons (pv 4) (pa_cons (pv 7) pa_nil))) pa_nil))))))))
    (pss_one (ps_ret (pv 5)))))), ?_⟩
    -- many, far
    refine ⟨.ref t, rfl, _, rfl, _, _, rfl, rfl, t, g, n, _, rfl, hT, by omega, by omega, ?_, fun H1 r1 k1 T1 a1 b1 => ?_⟩
    · exact Int.lt_of_le_of_lt (show (most : Int) + 1 ≤ 61 by omega) (by decide)
    obtain ⟨many, rfl⟩ : ∃ k : Nat, r1 = k := ⟨r1.toNat, by omega⟩
    have hmany : many ≤ most := by omega
    refine ⟨_, _, rfl, rfl, ⟨by decide, by decide, by decide⟩, (by show 2 ≤ sizeLine; decide), fun p np => ?_⟩
    have op : Off t g p := T1.off np
    refine ⟨.ref t, rfl, t, g, n + 1, 4, rfl, T1.mut op, by omega, by decide, by decide, fun H2 r2 k2 T2 a2 b2 => ?_⟩
    refine ⟨_, _, rfl, rfl, ⟨by decide, by decide⟩, ?_⟩
    have d0 : 0 ≤ r2 / 3 := Int.ediv_nonneg a2 (by decide)
    have d1 : r2 / 3 < 2 := by omega
    obtain ⟨v, hv, mv⟩ := at_pick (xs := [V.int 3, .int (10 ^ Int.toNat 29)]) d0 d1
    refine ⟨p, _, _, v, rfl, rfl, SqT.of (k2 _ _ op upd_same), hv, ?_⟩
    obtain ⟨far, rfl, f0, f1, f2⟩ : ∃ i : Int, v = .int i ∧ 0 < i ∧ i < 2 ^ 200 ∧ i ≤ 100000000000000000000000000000 := by
      rcases List.mem_cons.mp mv with rfl | mv
      · exact ⟨_, rfl, by decide, by decide, by decide⟩
      · exact ⟨_, List.mem_singleton.mp mv, by decide, by decide, by decide⟩
    refine ⟨_, _, rfl, ?_⟩
    have kA : Kp (Off t g) H H2 := k1.trans ((Kp.of (same_new np)).trans k2)
    -- years, found
    refine ⟨.ref t, rfl, t, g, n + 2, 9, rfl, T2, by omega, by decide, by decide, fun H3 r3 k3 T3 a3 b3 => ?_⟩
    refine ⟨_, _, rfl, rfl, Nat.zero_le _, fun o no => ⟨_, _, rfl, ?_⟩⟩
    have oo : Off t g o := T3.off no
    have kB : Kp (Off t g) H H3 := kA.trans k3
    have no0 : H o = none := kB.none oo no
    have offD : ∀ z, H z = none → Off t g z := fun z hz => hT.off hz
    -- the loop
    refine ⟨_, rfl, _, rfl, by omega, by omega, ?_⟩
    refine for_it (walk_range (n := ((many : Int)).toNat)) (fun i σ H5 => ∃ (h : Int) (ts : List Addr) (gs : List (Int × Int)) (y6 y7 : Option V), σ = [some (.ref t), some (.int (most : Int)), some (.int (many : Int)), some (.int far), some (.int h), some (.ref o), y6, y7] ∧ Kp (Off t g) H H5 ∧ Bag H5 t g (n + 3 + 6 * i) ∧ GsAt H5 (fun b => H b = none) o ts gs ∧ o ∉ ts ∧ gs.length = i ∧ Fit gs ∧ (∀ x ∈ gs, x.1 ≤ h) ∧ -10 ≤ h ∧ h ≤ 10 + (i : Int) * 1000000000000000000000000000000 ∧ ∀ x ∈ gs, -10 ≤ x.1)
      ⟨r3 - 4, [], [], none, none, rfl, kB.new no, T3.mut oo, ⟨upd_same, no0, rfl, fun i t g e _ => by simp at e, fun t m => by simp at m⟩, by simp, rfl, ⟨List.nodup_nil, fun g m => by simp at m⟩, fun x m => by simp at m, by omega, by omega, fun x m => by simp at m⟩ (fun _ _ _ _ _ => trivial) (fun i x σ H5 H6 hi hW hY => ?_) (fun σ H5 hW => ?_)
    · obtain ⟨h, ts, gs, y6, y7, rfl, kp, T5, hG, hno, hgl, hF, hx, hlo, hup, hgx⟩ := hW
      obtain ⟨rfl, rfl⟩ := hY
      have hi60 : i < 60 := by omega
      have gm : CDivW 0 ((most : Int) + 1) := ⟨by omega, Nat.lt_trans (log_lt (k := 200) (by omega) (Int.lt_of_le_of_lt (show (most : Int) + 1 ≤ 61 by omega) (by decide))) (by decide)⟩
      -- years
      refine ⟨.int h, rfl, _, _, rfl, rfl, .ref t, rfl, .int far, rfl, t, g, _, far, rfl, T5, by omega, f0, f1, fun H7 s1 k7 T7 a7 b7 => ?_⟩
      refine ⟨_, rfl, _, _, rfl, rfl, _, _, rfl, rfl, gm, _, _, rfl, rfl, ?_⟩
      have dy : 0 ≤ s1 / ((most : Int) + 1) := Int.ediv_nonneg a7 (by omega)
      have dz : s1 / ((most : Int) + 1) ≤ s1 := Int.ediv_le_self _ a7
      -- bears
      refine ⟨.ref t, rfl, t, g, _, 3, rfl, T7, by omega, by decide, by decide, fun H8 s2 k8 T8 a8 b8 => ?_⟩
      refine ⟨.ref t, rfl, t, g, _, 6, rfl, T8, by omega, by decide, by decide, fun H9 s3 k9 T9 a9 b9 => ?_⟩
      refine ⟨_, rfl, _, _, rfl, rfl, ⟨by decide, by decide, by decide⟩, (by show 2 ≤ sizeLine; decide), fun u nu => ?_⟩
      have ou : Off t g u := T9.off nu
      refine ⟨.ref t, rfl, t, g, _, 2, rfl, T9.mut ou, by omega, by decide, by decide, fun H10 s4 k10 T10 a10 b10 => ?_⟩
      obtain ⟨v4, hv4, mv4⟩ := at_pick (xs := [V.int (many : Int), .int (10 ^ Int.toNat 29)]) a10 b10
      refine ⟨u, _, _, v4, rfl, rfl, SqT.of (k10 _ _ ou upd_same), hv4, ?_⟩
      obtain ⟨w4, rfl, w0⟩ : ∃ i : Int, v4 = .int i ∧ 0 ≤ i := by
        rcases List.mem_cons.mp mv4 with rfl | mv4
        · exact ⟨_, rfl, by omega⟩
        · exact ⟨_, List.mem_singleton.mp mv4, by decide⟩
      refine ⟨(by show 4 ≤ sizeLine; decide), fun u2 nu2 => ?_⟩
      have ou2 : Off t g u2 := T10.off nu2
      refine ⟨.ref t, rfl, t, g, _, 4, rfl, T10.mut ou2, by omega, by decide, by decide, fun H11 s5 k11 T11 a11 b11 => ?_⟩
      obtain ⟨v5, hv5, mv5⟩ := at_pick (xs := [V.int 0, .int s2, .int s3, .int w4]) a11 b11
      refine ⟨u2, _, _, v5, rfl, rfl, SqT.of (k11 _ _ ou2 upd_same), hv5, ?_⟩
      obtain ⟨bears, rfl, hb0⟩ : ∃ i : Int, v5 = .int i ∧ 0 ≤ i := by
        rcases List.mem_cons.mp mv5 with rfl | mv5
        · exact ⟨_, rfl, by decide⟩
        rcases List.mem_cons.mp mv5 with rfl | mv5
        · exact ⟨_, rfl, a8⟩
        rcases List.mem_cons.mp mv5 with rfl | mv5
        · exact ⟨_, rfl, a9⟩
        · exact ⟨_, List.mem_singleton.mp mv5, w0⟩
      have k6 : Kp (Off t g) H6 H11 := ((((k7.trans k8).trans k9).trans (Kp.of (same_new nu))).trans k10).trans ((Kp.of (same_new nu2)).trans k11)
      have hG11 : GsAt H11 (fun b => H b = none) o ts gs := hG.keep (fun z x hz e => k6 z x (offD z hz) e)
      -- found.insert(..)
      refine ⟨.ref o, rfl, .inl ⟨rfl, _, hG11.seq⟩, .ref t, rfl, .ref o, rfl, o, _, rfl, .inl hG11.seq, _, _, rfl, rfl, t, g, _, _, rfl, T11, by omega, by omega, ?_, fun H12 s6 k12 T12 a12 b12 => ?_⟩
      · rw [List.length_map, hG.len]
        exact Int.lt_of_le_of_lt (show (gs.length : Int) + 1 ≤ 61 by omega) (by decide)
      · refine ⟨_, rfl, .int bears, rfl, (by show 2 ≤ sizeLine; decide), fun u3 nu3 => ?_⟩
        have ou3 : Off t g u3 := T12.off nu3
        have kp12 : Kp (Off t g) H H12 := (kp.trans k6).trans k12
        have nu30 : H u3 = none := kp12.none ou3 nu3
        have hG12 : GsAt H12 (fun b => H b = none) o ts gs := hG11.keep (fun z x hz e => k12 z x (offD z hz) e)
        have hG13 := hG12.same (same_new (o := .tup [.int (h + 1 + s1 / ((most : Int) + 1)), .int bears]) nu3)
        rw [List.length_map, hG.len] at b12
        refine ⟨o, _, s6, .ref u3, rfl, rfl, hG13.top, ils (by rw [List.length_map, hG.len]; omega), a12, by omega, ?_⟩
        have pm : ((ts.map V.ref).take s6.toNat ++ [V.ref u3] ++ (ts.map V.ref).drop s6.toNat).Perm (ts.map V.ref ++ [.ref u3]) := by
          have e : ts.map V.ref ++ [V.ref u3] = (ts.map V.ref).take s6.toNat ++ ((ts.map V.ref).drop s6.toNat ++ [V.ref u3]) := by
            rw [← List.append_assoc, List.take_append_drop]
          rw [e, List.append_assoc]
          exact List.Perm.append_left _ List.perm_append_comm
        obtain ⟨ts', gs', hG14, pg, hno', _⟩ := hG13.ins hno (q := u3) (g := (h + 1 + s1 / ((most : Int) + 1), bears)) upd_same nu30 pm
        refine ⟨h + 1 + s1 / ((most : Int) + 1), ts', gs', _, _, rfl, (kp12.new nu3).mutF no0, (T12.mut ou3).mut oo |>.more (by omega), hG14, hno', ?_, ?_, fun x m => ?_, by omega, by omega, fun x m => ?_⟩
        · rw [pg.length_eq, List.length_append, hgl]
          rfl
        · refine Fit.perm (gs := gs ++ [(h + 1 + s1 / ((most : Int) + 1), bears)]) ⟨?_, fun x m => ?_⟩ pg
          · rw [List.map_append, List.nodup_append]
            refine ⟨hF.nd, by simp, fun x m y my => ?_⟩
            obtain ⟨z, mz, rfl⟩ := List.mem_map.mp m
            rw [List.mem_singleton.mp my]
            have := hx z mz
            show z.1 ≠ h + 1 + s1 / ((most : Int) + 1)
            omega
          · rcases List.mem_append.mp m with m | m
            · exact hF.pos x m
            · rw [List.mem_singleton.mp m]
              exact hb0
        · rcases List.mem_append.mp (pg.mem_iff.mp m) with m | m
          · have := hx x m
            omega
          · rw [List.mem_singleton.mp m]
            exact Int.le_refl _
        · rcases List.mem_append.mp (pg.mem_iff.mp m) with m | m
          · exact hgx x m
          · rw [List.mem_singleton.mp m]
            show -10 ≤ h + 1 + s1 / ((most : Int) + 1)
            omega
    · obtain ⟨h, ts, gs, y6, y7, rfl, kp, T5, hG, hno, hgl, hF, hx, hlo, hup, hgx⟩ := hW
      exact ⟨.ref o, rfl, q H5 o ts gs kp (T5.more (by omega)) hG hno hF (by omega) fun x m => by
        have h1 := hx x m
        have h2 := hgx x m
        exact Nat.lt_of_lt_of_le (show x.1.natAbs < 100000000000000000000000000000000000 by omega) (by decide +kernel)⟩
end
end El
namespace El
open PySem PySem.Spec PyProof.Rows L2
section
variable {P : Program} {w : World} {K : PySem.W.Frag} {mg : Str → Option Value} {base : Heap}
abbrev s__law_by_age : Stmt := topS 27
abbrev N__law_by_age : List Str := ["lodgers", "found", "years", "bears", "at"]
abbrev P__law_by_age : List Str := ["lodgers"]
theorem sc__law_by_age : FnScope N__law_by_age P__law_by_age (defScope s__law_by_age) := ⟨rfl, rfl, rfl, by decide +kernel, rfl, by decide +kernel, by decide +kernel⟩
def sp__law_by_age : Sp := fun vs H Q _ => ∃ (B : Addr → Prop) (a : Addr) (ts : List Addr) (gs : List (Int × Int)), vs = [.ref a] ∧ GsAt H B a ts gs ∧ Fit gs ∧ gs.length ≤ 1000 ∧
  ∀ H' o us, Same H H' → RmsAt H' (fun b => H b = none) o us (settle gs) → Q (.ref o) H'
theorem ok__law_by_age (A : At K mg "_law_by_age" P__law_by_age s__law_by_age) (B : Bi mg) : Df P w K mg base 1 "_law_by_age" P__law_by_age s__law_by_age sp__law_by_age := by
  refine A.df fun f fd F => F.ok sc__law_by_age (fun vs H Q E h => ?_) (fun cdv AA outer s H vs Q E hr h => ?_)
  · obtain ⟨_, a, _, _, rfl, _⟩ := h
    rfl
  · obtain ⟨BB, a, ts, gs, rfl, hG, hF, hl, q⟩ := h
    have nd := sc__law_by_age.nd
    refine ⟨_, (pss_cons (ps_set (i := 1) nd rfl (.inl rfl) (pe_lst pa_nil))
    (pss_cons (ps_for PassesOwn.never rfl (pi_list (pe_callBK (cr_sortedPK (b := true) rfl) (by rfl) B.sorted (by decide +kernel) (pa_cons (pv 0) pa_nil) (pk_cons pe_bl pk_nil))) (pg_tup (by rfl) (pgs_cons (pg_name (i := 2) nd rfl (.inl rfl)) (pgs_cons (pg_name (i := 3) nd rfl (.inl rfl)) pgs_nil))) (pss_cons (ps_set (i := 4) nd rfl (.inl rfl) pe_int) (pss_cons (ps_while PassesOwn.never (PW.pt (pw_and (pt_cmpR op_lt (pv 4) (pe_callB call_len_seq (by rfl) B.len PySem.boot_len (pa_cons (pv 1) pa_nil)) (nomark _)) (pw_and1 (pt_cmpR op_gt (pe_callB call_len_seq (by rfl) B.len PySem.boot_len (pa_cons (pe_ix ix_list (pv 1) (pv 4) (fun _ _ => rfl)) pa_nil)) (pv 3) (nomark _))))) (pss_one (ps_aug (i := 4) nd rfl (.inl rfl) pe_int ip_add))) (pss_cons (ps_if (pt_cmpR op_eq (pv 4) (pe_callB call_len_seq (by rfl) B.len PySem.boot_len (pa_cons (pv 1) pa_nil)) (nomark _)) (pss_one (ps_expr (pe_bm PySem.F.plainAttrs_list PySem.F.slot_list_append PySem.F.type_list_append mt_append (pv 1) (pa_cons (pe_lst pa_nil) pa_nil)))) pss_nil) (pss_one (ps_expr (pe_bm PySem.F.plainAttrs_list PySem.F.slot_list_append PySem.F.type_list_append mt_append (pe_ix ix_list (pv 1) (pv 4) (fun _ _ => rfl)) (pa_cons (pv 2) pa_nil))))))))
    (pss_one (ps_ret (pv 1))))), ?_⟩
    -- found = []
    refine ⟨Nat.zero_le _, fun o no => ?_⟩
    have s1 : Same H (upd H o (.lst [])) := same_new no
    have hG1 := hG.same s1
    -- sorted(lodgers, reverse=True)
    refine ⟨.ref a, rfl, a, _, prOf (upd H o (.lst [])), rfl, rfl, hG1.seq, hG1.mem, fun ys p2 hs hb np2 => ?_⟩
    have hys := sorted_down hF hG1.prs hs hb
    have hmem : ∀ x ∈ ys.reverse, ∃ t, x = V.ref t ∧ upd H o (.lst []) t = some (.tup [.int (prOf (upd H o (.lst [])) x).1, .int (prOf (upd H o (.lst [])) x).2]) := fun x m => hG1.mem x (hb.mem_iff.mp (List.mem_reverse.mp m))
    refine ⟨p2, rfl, ⟨_, SqL.of upd_same⟩, ?_⟩
    rw [if_pos rfl]
    have s2 : Same (upd H o (.lst [])) (upd (upd H o (.lst [])) p2 (.lst ys.reverse)) := same_new np2
    have eo : upd (upd H o (.lst [])) p2 (.lst ys.reverse) o = some (.lst []) := s2 _ _ upd_same
    have ep : upd (upd H o (.lst [])) p2 (.lst ys.reverse) p2 = some (.lst ys.reverse) := upd_same
    have hpo : p2 ≠ o := no_of upd_same np2
    have sH := s1.trans s2
    have hmem2 : ∀ x ∈ ys.reverse, ∃ t, x = V.ref t ∧ t ≠ o ∧ upd (upd H o (.lst [])) p2 (.lst ys.reverse) t = some (.tup [.int (prOf (upd H o (.lst [])) x).1, .int (prOf (upd H o (.lst [])) x).2]) := fun x m => by
      obtain ⟨t, e1, e2⟩ := hmem x m
      exact ⟨t, e1, (ne_of e2 upd_same (by simp)), s2 _ _ e2⟩
    revert sH eo ep hmem2
    generalize upd (upd H o (.lst [])) p2 (.lst ys.reverse) = Hs
    intro eo ep sH hmem2
    have hlen : ys.reverse.length = (byAge gs).length := by rw [← hys, List.length_map]
    refine for_it (walk_list (xs := ys.reverse)) (fun i σ H2 => ∃ us y2 y3 y4, σ = [some (.ref a), some (.ref o), y2, y3, y4] ∧ Kp (fun b => b ≠ o) Hs H2 ∧ RmsAt H2 (fun b => b = o ∨ Hs b = none) o us (settleL ((byAge gs).take i)))
      ⟨[], none, none, none, rfl, Kp.refl, RmsAt.nil eo (.inl rfl)⟩ (fun i σ H2 _ hW => ?_) (fun i x σ H2 H3 hi hW hY => ?_) (fun σ H2 hW => ?_)
    · obtain ⟨_, _, _, _, _, kp, _⟩ := hW
      exact SqL.of (kp _ _ hpo ep)
    · obtain ⟨us, y2, y3, y4, rfl, kp, hR⟩ := hW
      obtain ⟨rfl, hx⟩ := hY
      obtain ⟨t, rfl, hto, et⟩ := hmem2 x (List.mem_of_getElem? hx)
      have eg : (byAge gs)[i]? = some (prOf (upd H o (.lst [])) (.ref t)) := by
        rw [← hys, List.getElem?_map, hx]
        rfl
      revert eg et
      generalize prOf (upd H o (.lst [])) (.ref t) = g
      intro et eg
      have hlt : (settleL ((byAge gs).take i)).length ≤ 1000 := by
        refine Nat.le_trans (settleL_len _) ?_
        rw [List.length_take, byAge_length]
        omega
      have hE := settleL_take eg
      have hrm : ∀ r ∈ settleL ((byAge gs).take i), r.length ≤ 1000 := fun r hr => by
        refine Nat.le_trans (settleL_room hr) ?_
        rw [List.length_take, byAge_length]
        omega
      revert hlt hE hR hrm
      generalize settleL ((byAge gs).take i) = rs
      intro hR hlt hE hrm
      refine ⟨t, _, rfl, SqT.of (kp _ _ hto et), rfl, .int g.1, _, rfl, .int g.2, _, rfl, rfl, ?_⟩
      -- at = 0; the while
      refine seq_set ?_
      refine seq_to (fun σ H4 => σ = [some (.ref a), some (.ref o), some (.int g.1), some (.int g.2), some (.int (firstB rs g.2))] ∧ H4 = H3) (fun X hX => ?_) (fun σ H4 hE4 => ?_)
      · refine while_to (fun m σ H4 => ∃ j : Nat, σ = [some (.ref a), some (.ref o), some (.int g.1), some (.int g.2), some (.int (j : Int))] ∧ H4 = H3 ∧ m + j = rs.length ∧ ∀ j' r, j' < j → rs[j']? = some r → g.2 < (r.length : Int))
          (fun σ H4 => σ = [some (.ref a), some (.ref o), some (.int g.1), some (.int g.2), some (.int (firstB rs g.2))] ∧ H4 = H3) ⟨rs.length, 0, rfl, rfl, rfl, fun j' r h => absurd h (Nat.not_lt_zero _)⟩ hX (fun X hX m σ H4 hW => ?_)
        obtain ⟨j, rfl, rfl, hm, hj⟩ := hW
        refine ⟨_, rfl, .ref o, rfl, o, _, rfl, .inl hR.seq, _, _, rfl, rfl, _, rfl, ite2 (fun e => ?_) (fun e => ?_)⟩
        · have e := of_decide_eq_true e
          rw [List.length_map, hR.len] at e
          obtain ⟨r, er⟩ := at_some (show j < rs.length by omega)
          obtain ⟨u, eu, hu⟩ := hR.of er
          refine ⟨.ref o, rfl, _, rfl, o, _, _, .ref u, rfl, rfl, hR.seq, atI_nat (j := j) (by rw [List.getElem?_map, eu]; rfl), u, _, rfl, .inl (SqL.of hu), .int g.2, rfl, _, _, rfl, rfl, _, rfl, ite2 (fun e2 => ?_) (fun e2 => ?_)⟩
          · have e2 := of_decide_eq_true e2
            rw [List.length_map] at e2
            refine ⟨fun σ' H' => ∃ j : Nat, σ' = [some (.ref a), some (.ref o), some (.int g.1), some (.int g.2), some (.int (j : Int))] ∧ H' = H4 ∧ (m - 1) + j = rs.length ∧ ∀ j' r, j' < j → rs[j']? = some r → g.2 < (r.length : Int), fun σ' H' h => ⟨m - 1, by omega, h⟩, ?_⟩
            refine ⟨_, rfl, _, _, rfl, rfl, j + 1, rfl, rfl, by omega, fun j' r' hj' e' => ?_⟩
            by_cases hjj : j' < j
            · exact hj j' r' hjj e'
            · have : j' = j := by omega
              subst this
              obtain rfl : r = r' := Option.some.inj (er.symm.trans e')
              exact e2
          · have e2 : ¬ g.2 < ((r.map V.int).length : Int) := fun z => e2 (decide_eq_true z)
            rw [List.length_map] at e2
            have hb : firstB rs g.2 = j := firstB_is rs g.2 j (by omega) hj fun r' e' => by
              obtain rfl : r = r' := Option.some.inj (er.symm.trans e')
              omega
            exact hX _ _ ⟨by rw [hb], rfl⟩
        · have e : ¬ (j : Int) < ((us.map V.ref).length : Int) := fun z => e (decide_eq_true z)
          rw [List.length_map, hR.len] at e
          have hb : firstB rs g.2 = j := firstB_is rs g.2 j (by omega) hj fun r' e' => absurd (at_lt e') (by omega)
          refine iteF (hX _ _ ⟨by rw [hb], rfl⟩)
      · obtain ⟨rfl, rfl⟩ := hE4
        have fin : ∀ {H5 : Hp} {us' : List Addr} {rs' : List (List Int)} {t : Addr} {r : List Int}, Kp (fun b => b ≠ o) Hs H5 → RmsAt H5 (fun b => b = o ∨ Hs b = none) o us' rs' → us'[firstB rs g.2]? = some t → place rs g.1 g.2 = rs'.set (firstB rs g.2) (r ++ [g.1]) →
            ∃ us y2 y3 y4, [some (V.ref a), some (.ref o), some (.int g.1), some (.int g.2), some (.int (firstB rs g.2))] = [some (V.ref a), some (.ref o), y2, y3, y4] ∧ Kp (fun b => b ≠ o) Hs (upd H5 t (.lst (r.map V.int ++ [.int g.1]))) ∧ RmsAt (upd H5 t (.lst (r.map V.int ++ [.int g.1]))) (fun b => b = o ∨ Hs b = none) o us (settleL ((byAge gs).take (i + 1))) := by
          intro H5 us' rs' t r k5 hR5 et ep
          refine ⟨us', _, _, _, rfl, ?_, ?_⟩
          · rcases hR5.b t (List.mem_of_getElem? et) with z | z
            · exact absurd (z ▸ List.mem_of_getElem? et) hR5.no
            · exact k5.mutF z
          · have z := hR5.set et (r ++ [g.1])
            rw [List.map_append] at z
            rw [hE, ep]
            exact z
        refine ⟨_, rfl, .ref o, rfl, o, _, rfl, .inl hR.seq, rfl, _, rfl, ite2 (fun e => ?_) (fun e => ?_)⟩
        · have e := V.int.inj (of_decide_eq_true e)
          rw [List.length_map, hR.len] at e
          have e : firstB rs g.2 = rs.length := by omega
          refine ⟨.ref o, rfl, .inl ⟨rfl, _, hR.seq⟩, Nat.zero_le _, fun u nu => ?_⟩
          have nuo : o ≠ u := ne_of_none hR.top nu
          refine ⟨o, _, _, rfl, rfl, (by rw [upd_ne nuo]; exact hR.top), ils (by rw [List.length_map, hR.len]; omega), ?_⟩
          have hns : Hs u = none := kp.none nuo.symm nu
          have hR5 := hR.push (r := []) nu (.inr hns)
          have k5 : Kp (fun b => b ≠ o) Hs (upd (upd H4 u (.lst [])) o (.lst (us.map V.ref ++ [.ref u]))) := Kp.mut (Kp.new kp nu) (fun z => z rfl)
          have et : (us ++ [u])[firstB rs g.2]? = some u := by
            rw [e, ← hR.len, List.getElem?_append_right (Nat.le_refl _), Nat.sub_self]
            rfl
          have er : (rs ++ [[]])[firstB rs g.2]? = some [] := by
            rw [e, List.getElem?_append_right (Nat.le_refl _), Nat.sub_self]
            rfl
          have eu := hR5.at' _ _ _ et er
          refine ⟨.ref o, rfl, _, rfl, o, _, _, .ref u, rfl, rfl, SqL.of (by rw [upd_same]), atI_nat (j := firstB rs g.2) ?_, .inl ⟨rfl, _, SqL.of eu⟩, .int g.1, rfl, u, _, _, rfl, rfl, eu, ils (Nat.zero_le _), ?_⟩
          · have z := congrArg (Option.map V.ref) et
            rw [← List.getElem?_map, List.map_append] at z
            exact z
          · refine fin (r := []) k5 hR5 et ?_
            rw [place_new _ _ _ e, e, List.set_append_right _ _ (Nat.le_refl _), Nat.sub_self]
            rfl
        · have e : ¬ firstB rs g.2 = rs.length := fun z => e (decide_eq_true (by rw [List.length_map, hR.len, z]))
          have hle := firstB_le rs g.2
          obtain ⟨r, er, _⟩ := firstB_in rs g.2 (by omega)
          obtain ⟨t, et, eu⟩ := hR.of er
          refine ⟨.ref o, rfl, _, rfl, o, _, _, .ref t, rfl, rfl, hR.seq, atI_nat (j := firstB rs g.2) ?_, .inl ⟨rfl, _, SqL.of eu⟩, .int g.1, rfl, t, _, _, rfl, rfl, eu, ils (by rw [List.length_map]; have := hrm r (List.mem_of_getElem? er); omega), ?_⟩
          · rw [List.getElem?_map, et]
            rfl
          · exact fin kp hR et (place_at _ _ _ _ er)
    · obtain ⟨us, y2, y3, y4, rfl, kp, hR⟩ := hW
      rw [hlen, take_full] at hR
      refine ⟨.ref o, rfl, q H2 o us ?_ (hR.newTop (fun _ _ _ e => e) fun b hb => ?_)⟩
      · intro b x hb
        exact kp _ _ (ne_of_none hb no) (sH _ _ hb)
      · rcases hb with rfl | hb
        · exact no
        · rcases hR.b b hb with rfl | z
          · exact no
          · exact sH.free z
end
end El
namespace El
open PySem PySem.Spec PyProof.Rows L2
/-- the first guest that there can't be, as it is told -/
def FaultIs (gs : List (Int × Int)) (D : Option (Str × Dv)) : Prop := (∃ i, FirstBad gs i ∧ D = some (("guest" : Str), .num (i : Nat))) ∨ (Fit gs ∧ D = none)
section
variable {P : Program} {w : World} {K : PySem.W.Frag} {mg : Str → Option Value} {base : Heap}
abbrev s__law_fault : Stmt := topS 29
abbrev N__law_fault : List Str := ["folk", "k", "one"]
abbrev P__law_fault : List Str := ["folk"]
theorem sc__law_fault : FnScope N__law_fault P__law_fault (defScope s__law_fault) := ⟨rfl, rfl, rfl, by decide +kernel, rfl, by decide +kernel, by decide +kernel⟩
def sp__law_fault : Sp := fun vs H Q _ => ∃ (BB : Addr → Prop) (a : Addr) (ts : List Addr) (gs : List (Int × Int)), vs = [.ref a] ∧ GsAt H BB a ts gs ∧ gs.length ≤ 1000 ∧ ∀ H' v D, Same H H' → DvAt H' v D → FaultIs gs D → Q v H'
theorem ok__law_fault (A : At K mg "_law_fault" P__law_fault s__law_fault) (B : Bi mg) : Df P w K mg base 1 "_law_fault" P__law_fault s__law_fault sp__law_fault := by
  refine A.df fun f fd F => F.ok sc__law_fault (fun vs H Q E h => ?_) (fun cdv AA outer s H vs Q E hr h => ?_)
  · obtain ⟨_, _, _, _, rfl, _⟩ := h
    rfl
  · obtain ⟨BB, a, ts, gs, rfl, hG, hl, q⟩ := h
    have nd := sc__law_fault.nd
    refine ⟨_, (pss_cons (ps_for PassesOwn.never rfl (pi_range1 (by rfl) B.range (pa_cons (pe_callB call_len_seq (by rfl) B.len PySem.boot_len (pa_cons (pv 0) pa_nil)) pa_nil)) (pg_name (i := 1) nd rfl (.inl rfl)) (pss_one (ps_if (PW.pt (pw_or (pt_cmpR op_lt (pe_ix ix_tup (pe_ix ix_list (pv 0) (pv 1) (fun _ _ => rfl)) pe_int (fun _ _ => rfl)) pe_int (nomark _)) (pw_or1 (pt_cmpR op_in_seq (pe_ix ix_tup (pe_ix ix_list (pv 0) (pv 1) (fun _ _ => rfl)) pe_int (fun _ _ => rfl)) (pe_lc (own := [("one", 2)]) (tt := tYes) rfl nd (pi_list (pe_slice sl_list (pv 0) po_none (po_some (pv 1)))) (blkOk_by (N := N__law_fault) (sc := defScope s__law_fault) (by decide +kernel)) (fun _ _ _ _ _ => (pg_name (i := 2) nd rfl (.inl rfl))) (fun _ _ _ _ _ => pts_nil) (fun _ _ _ _ _ => (pe_ix (ixtK K) (pv 2) pe_int (fun _ _ => rfl)))) (by rfl))))) (pss_one (ps_ret (pe_tup (pa_cons pe_str (pa_cons (pv 1) pa_nil))))) pss_nil)))
    (pss_one (ps_ret pe_non))), ?_⟩
    refine ⟨.ref a, rfl, a, _, rfl, .inl hG.seq, _, rfl, by rw [List.length_map, hG.len]; omega, by rw [List.length_map, hG.len]; omega, ?_⟩
    rw [List.length_map, hG.len, Int.toNat_natCast]
    refine for_it (walk_range (n := gs.length)) (fun k σ H2 => ∃ y1 y2, σ = [some (.ref a), y1, y2] ∧ Same H H2 ∧ ∀ j, j < k → ¬ BadAt gs j) ⟨_, _, rfl, Same.refl _, fun j h => absurd h (Nat.not_lt_zero _)⟩ (fun _ _ _ _ _ => trivial) (fun k x σ H2 H3 hk hW hY => ?_) (fun σ H2 hW => ?_)
    · obtain ⟨y1, y2, rfl, sm, hb⟩ := hW
      obtain ⟨rfl, hx⟩ := hY
      obtain rfl := rg0 hx
      obtain ⟨g, eg⟩ := at_some hk
      obtain ⟨t, et1, et⟩ := (hG.same sm).at_ eg
      have bad : BadAt gs k → ∀ H4, Same H3 H4 → ∀ tp, H4 tp = some (.tup [.str "guest", .int (k : Int)]) → Q (.ref tp) H4 := fun h H4 s4 tp e => q H4 _ (some (("guest" : Str), .num ((k : Nat) : Int))) (sm.trans s4) ⟨tp, _, rfl, e, rfl⟩ (.inl ⟨k, ⟨h, hb⟩, rfl⟩)
      refine ⟨.ref a, rfl, .int (k : Int), rfl, a, _, _, _, rfl, rfl, (hG.same sm).seq, atI_nat (j := k) et1, t, _, _, .int g.2, rfl, rfl, SqT.of et, atI_nat (j := 1) rfl, _, _, rfl, rfl, _, rfl, ?_⟩
      by_cases hneg : g.2 < 0
      · rw [decide_eq_true hneg]
        refine iteT ⟨.int (k : Int), rfl, (by show 2 ≤ sizeLine; decide), fun tp ntp => bad ⟨g, eg, .inl hneg⟩ _ (same_new ntp) tp upd_same⟩
      · rw [decide_eq_false hneg]
        refine iteF ?_
        refine ⟨.ref a, rfl, .int (k : Int), rfl, a, _, _, _, rfl, rfl, (hG.same sm).seq, atI_nat (j := k) et1, t, _, _, .int g.1, rfl, rfl, SqT.of et, atI_nat (j := 0) rfl, ?_⟩
        refine ⟨.ref a, rfl, .int (k : Int), rfl, _, rfl, a, _, rfl, (hG.same sm).seq, fun p np => ?_⟩
        rw [cut_to, ← List.map_take]
        have sp := same_new (o := .lst ((ts.take k).map V.ref)) np
        have hC : GsAt (upd H3 p (.lst ((ts.take k).map V.ref))) (fun _ => True) p (ts.take k) (gs.take k) := (((hG.same sm).pr.take k).same sp).gs upd_same
        have s3 := sm.trans sp
        have et3 := sp _ _ et
        revert hC s3 sp et3
        generalize upd H3 p (.lst ((ts.take k).map V.ref)) = H4
        intro sp hC s3 et3
        refine ⟨p, rfl, ⟨_, hC.seq⟩, fun D nD => ?_⟩
        refine lc_it (walk_list (xs := (ts.take k).map V.ref)) (fun i H5 => Same H4 H5 ∧ H5 D = some (.lst ((((gs.take k).take i).map (·.1)).map V.int))) ⟨same_new nD, upd_same⟩ (fun i H5 _ hW => (hC.same hW.1).seq) (fun i x H5 H6 hi hW hY => ?_) (fun H5 hW => ?_)
        · obtain ⟨s5, e5⟩ := hW
          obtain ⟨rfl, hx⟩ := hY
          obtain ⟨u, z, rfl, ez, eu⟩ := (hC.same s5).get hx
          refine ⟨rfl, .ref u, rfl, u, _, _, .int z.1, rfl, rfl, SqT.of eu, atI_nat (j := 0) rfl, _, e5, ils (by rw [List.length_map, List.length_map, List.length_take, List.length_take]; omega), Same.mut s5 nD, ?_⟩
          rw [upd_same, take_snoc ez, List.map_append, List.map_append]
          rfl
        · obtain ⟨s5, e5⟩ := hW
          have hCl : ((ts.take k).map V.ref).length = (gs.take k).length := by rw [List.length_map, hC.len]
          rw [hCl, take_full] at e5
          refine ⟨D, _, rfl, .inl (SqL.of e5), rfl, flat_ints _, _, rfl, ?_⟩
          show if inV (.int g.1) (((gs.take k).map (·.1)).map V.int) = true then _ else _
          rw [inV_ints]
          by_cases hin : g.1 ∈ (gs.take k).map (·.1)
          · rw [decide_eq_true hin]
            exact iteT ⟨.int (k : Int), rfl, (by show 2 ≤ sizeLine; decide), fun tp ntp => bad ⟨g, eg, .inr hin⟩ _ (sp.trans (s5.trans (same_new ntp))) tp upd_same⟩
          · rw [decide_eq_false hin]
            refine iteF ⟨_, _, rfl, s3.trans s5, fun j hj => ?_⟩
            by_cases h : j < k
            · exact hb j h
            · obtain rfl : j = k := by omega
              intro ⟨g', e', h'⟩
              obtain rfl : g = g' := Option.some.inj (eg.symm.trans e')
              exact h'.elim hneg hin
    · obtain ⟨y1, y2, rfl, sm, hb⟩ := hW
      refine q H2 .non none sm rfl (.inr ⟨fit_of fun i hbad => ?_, rfl⟩)
      obtain ⟨g, e, _⟩ := id hbad
      exact hb i (at_lt e) hbad
end
end El
namespace El
open PySem PySem.Spec PyProof.Rows L2
/-- what is wrong with an arrangement of these ages, as it is told -/
def RoomIs (ages : List Int) (rs : List (List Int)) (D : Option (Str × Dv)) : Prop :=
  (∃ k, FirstOdd ages rs k ∧ D = some (("room" : Str), .num (k : Nat))) ∨ (LeftOut ages rs ∧ D = some (("room" : Str), .non)) ∨ (Seemly ages rs.flatten ∧ ¬ rs.flatten.length < ages.length ∧ D = none)
section
variable {P : Program} {w : World} {K : PySem.W.Frag} {mg : Str → Option Value} {base : Heap}
abbrev s__law_room_fault : Stmt := topS 30
abbrev N__law_room_fault : List Str := ["folk", "parts", "known", "met", "k", "years", "bears"]
abbrev P__law_room_fault : List Str := ["folk", "parts"]
theorem sc__law_room_fault : FnScope N__law_room_fault P__law_room_fault (defScope s__law_room_fault) := ⟨rfl, rfl, rfl, by decide +kernel, rfl, by decide +kernel, by decide +kernel⟩
def sp__law_room_fault : Sp := fun vs H Q _ => ∃ (BB : Addr → Prop) (a o : Addr) (ts us : List Addr) (gs : List (Int × Int)) (rs : List (List Int)), vs = [.ref a, .ref o] ∧ GsAt H BB a ts gs ∧ gs.length ≤ 1000 ∧ RdAt H o us rs ∧ rs.length ≤ 1000 ∧
  ∀ H' v D, Same H H' → DvAt H' v D → RoomIs (gs.map (·.1)) rs D → Q v H'
theorem ok__law_room_fault (A : At K mg "_law_room_fault" P__law_room_fault s__law_room_fault) (B : Bi mg) : Df P w K mg base 1 "_law_room_fault" P__law_room_fault s__law_room_fault sp__law_room_fault := by
  refine A.df fun f fd F => F.ok sc__law_room_fault (fun vs H Q E h => ?_) (fun cdv AA outer s H vs Q E hr h => ?_)
  · obtain ⟨_, _, _, _, _, _, _, rfl, _⟩ := h
    rfl
  · obtain ⟨BB, a, o, ts, us, gs, rs, rfl, hG, hl, hR, hrl, q⟩ := h
    have nd := sc__law_room_fault.nd
    refine ⟨_, (pss_cons (ps_par (i := 2) (j := 3) (by rfl) nd rfl rfl (by decide) rfl rfl (pa_cons (pe_lc (own := [("years", 5), ("bears", 6)]) (tt := tYes) rfl nd (pi_list (pv 0)) (blkOk_by (N := N__law_room_fault) (sc := defScope s__law_room_fault) (by decide +kernel)) (fun _ _ _ _ _ => (pgTupK K 2 (by rfl) (pgs_cons (pg_name (i := 5) nd rfl (.inl rfl)) (pgs_cons (pg_name (i := 6) nd rfl (.inl rfl)) pgs_nil)))) (fun _ _ _ _ _ => pts_nil) (fun _ _ _ _ _ => (pv 5))) (pa_cons (pe_lst pa_nil) pa_nil)) (by rfl))
    (pss_cons (ps_for PassesOwn.never rfl (pi_range1 (by rfl) B.range (pa_cons (pe_callB call_len_seq (by rfl) B.len PySem.boot_len (pa_cons (pv 1) pa_nil)) pa_nil)) (pg_name (i := 4) nd rfl (.inl rfl)) (pss_one (ps_for PassesOwn.never rfl (pi_list (pe_ix ix_list (pv 1) (pv 4) (fun _ _ => rfl))) (pg_name (i := 5) nd rfl (.inl rfl)) (pss_cons (ps_if (PW.pt (pw_or (pt_cmpR op_notIn_seq (pv 5) (pv 2) (by rfl)) (pw_or1 (pt_cmpR op_in_seq (pv 5) (pv 3) (by rfl))))) (pss_one (ps_ret (pe_tup (pa_cons pe_str (pa_cons (pv 4) pa_nil))))) pss_nil) (pss_one (ps_expr (pe_bm PySem.F.plainAttrs_list PySem.F.slot_list_append PySem.F.type_list_append mt_append (pv 3) (pa_cons (pv 5) pa_nil))))))))
    (pss_cons (ps_if (pt_cmpR op_lt (pe_callB call_len_seq (by rfl) B.len PySem.boot_len (pa_cons (pv 3) pa_nil)) (pe_callB call_len_seq (by rfl) B.len PySem.boot_len (pa_cons (pv 2) pa_nil)) (nomark _)) (pss_one (ps_ret (pe_tup (pa_cons pe_str (pa_cons pe_non pa_nil))))) pss_nil)
    (pss_one (ps_ret pe_non))))), ?_⟩
    -- known, met
    refine ⟨.ref a, rfl, a, rfl, ⟨_, hG.seq⟩, fun D nD => ?_⟩
    refine lc_it (walk_list (xs := ts.map V.ref)) (fun i H2 => Same H H2 ∧ H2 D = some (.lst (((gs.take i).map (·.1)).map V.int))) ⟨same_new nD, upd_same⟩ (fun i H2 _ hW => (hG.same hW.1).seq) (fun i x H2 H3 hi hW hY => ?_) (fun H2 hW => ?_)
    · obtain ⟨s5, e5⟩ := hW
      obtain ⟨rfl, hx⟩ := hY
      obtain ⟨u, z, rfl, ez, eu⟩ := (hG.same s5).get hx
      refine ⟨u, _, rfl, SqT.of eu, rfl, .int z.1, _, rfl, .int z.2, _, rfl, rfl, rfl, .int z.1, rfl, _, e5, ils (by rw [List.length_map, List.length_map, List.length_take]; omega), Same.mut s5 nD, ?_⟩
      rw [upd_same, take_snoc ez, List.map_append, List.map_append]
      rfl
    obtain ⟨s2, eD⟩ := hW
    rw [List.length_map, hG.len, take_full] at eD
    have gl : (gs.map (·.1)).length ≤ 1000 := by
      rw [List.length_map]
      exact hl
    revert gl eD q
    generalize gs.map (·.1) = ages
    intro q eD gl
    refine ⟨Nat.zero_le _, fun m nm => ⟨_, _, rfl, ?_⟩⟩
    have sm3 := same_new (o := .lst []) nm
    have s3 := s2.trans sm3
    have nm0 : H m = none := s2.free nm
    have em : upd H2 m (.lst []) m = some (.lst (([] : List Int).map V.int)) := upd_same
    have eD3 := sm3 _ _ eD
    have mD : m ≠ D := fun z => by rw [z, eD] at nm; cases nm
    revert s3 em eD3
    generalize upd H2 m (.lst []) = H3
    intro s3 em eD3
    refine ⟨.ref o, rfl, o, _, rfl, .inl (hR.same s3).seq, _, rfl, by rw [List.length_map, hR.len]; omega, by rw [List.length_map, hR.len]; omega, ?_⟩
    rw [List.length_map, hR.len, Int.toNat_natCast]
    refine for_it (walk_range (n := rs.length)) (fun k σ H4 => ∃ y4 y5 y6, σ = [some (.ref a), some (.ref o), some (.ref D), some (.ref m), y4, y5, y6] ∧ Same H H4 ∧ H4 D = some (.lst (ages.map V.int)) ∧ H4 m = some (.lst ((rs.take k).flatten.map V.int)) ∧ Seemly ages (rs.take k).flatten) ⟨_, _, _, rfl, s3, eD3, em, Seemly.nil _⟩ (fun _ _ _ _ _ => trivial) (fun k x σ H4 H5 hk hW hY => ?_) (fun σ H4 hW => ?_)
    · obtain ⟨y4, y5, y6, rfl, s4, e4, em4, hf⟩ := hW
      obtain ⟨rfl, hx⟩ := hY
      obtain rfl := rg0 hx
      obtain ⟨r, er⟩ := at_some hk
      obtain ⟨t, et1, et⟩ := (hR.same s4).of er
      refine ⟨.ref o, rfl, .int (k : Int), rfl, o, _, _, .ref t, rfl, rfl, (hR.same s4).seq, atI_nat (j := k) (by rw [List.getElem?_map, et1]; rfl), t, rfl, ⟨_, SqL.of et⟩, ?_⟩
      have tm : t ≠ m := fun z => by
        have := hR.of er
        obtain ⟨t', e1, e2⟩ := this
        obtain rfl : t' = t := Option.some.inj (e1.symm.trans et1)
        rw [z, nm0] at e2
        cases e2
      refine for_it (walk_list (xs := r.map V.int)) (fun j σ H6 => ∃ y5 y6, σ = [some (.ref a), some (.ref o), some (.ref D), some (.ref m), some (.int (k : Int)), y5, y6] ∧ Same H H6 ∧ H6 t = some (.lst (r.map V.int)) ∧ H6 D = some (.lst (ages.map V.int)) ∧ H6 m = some (.lst (((rs.take k).flatten ++ r.take j).map V.int)) ∧ Seemly ages ((rs.take k).flatten ++ r.take j))
        ⟨_, _, rfl, s4, et, e4, by rw [List.take_zero, List.append_nil]; exact em4, by rw [List.take_zero, List.append_nil]; exact hf⟩ (fun j σ H6 _ hW => ?_) (fun j x σ H6 H7 hj hW hY => ?_) (fun σ H6 hW => ?_)
      · obtain ⟨_, _, _, _, e, _⟩ := hW
        exact SqL.of e
      · obtain ⟨y5, y6, rfl, s6, et6, e6, em6, hf6⟩ := hW
        obtain ⟨rfl, hx⟩ := hY
        obtain ⟨b, eb, rfl⟩ := ints_at hx
        have told : (b ∉ ages ∨ b ∈ (rs.take k).flatten ++ r.take j) → ∀ tp, H7 tp = none → Q (.ref tp) (upd H7 tp (.tup [.str "room", .int (k : Int)])) := fun h tp ntp =>
          q _ _ (some (("room" : Str), .num ((k : Nat) : Int))) (s6.trans (same_new ntp)) ⟨tp, _, rfl, upd_same, rfl⟩ (.inl ⟨k, ⟨r, j, b, er, eb, hf6, h⟩, rfl⟩)
        refine ⟨.int b, rfl, .ref D, rfl, D, _, rfl, .inl (SqL.of e6), rfl, flat_ints _, _, rfl, ?_⟩
        show if (!inV (.int b) (ages.map V.int)) = true then _ else _
        rw [inV_ints]
        by_cases hin : b ∈ ages
        · rw [decide_eq_true hin]
          refine iteF ⟨.int b, rfl, .ref m, rfl, m, _, rfl, .inl (SqL.of em6), rfl, flat_ints _, _, rfl, ?_⟩
          show if inV (.int b) (((rs.take k).flatten ++ r.take j).map V.int) = true then _ else _
          rw [inV_ints]
          by_cases hm : b ∈ (rs.take k).flatten ++ r.take j
          · rw [decide_eq_true hm]
            exact iteT ⟨.int (k : Int), rfl, (by show 2 ≤ sizeLine; decide), fun tp ntp => told (.inr hm) tp ntp⟩
          · rw [decide_eq_false hm]
            refine iteF ⟨.ref m, rfl, .inl ⟨rfl, _, SqL.of em6⟩, .int b, rfl, m, _, _, rfl, rfl, em6, ils (by rw [List.length_map]; exact Nat.le_trans hf6.len (by omega)), ?_⟩
            refine ⟨_, _, rfl, Same.mut s6 nm0, by rw [upd_ne tm]; exact et6, by rw [upd_ne mD.symm]; exact e6, ?_, ?_⟩
            · rw [upd_same, take_snoc eb, ← List.append_assoc, List.map_append (l₂ := [b])]
              rfl
            · rw [take_snoc eb, ← List.append_assoc]
              exact hf6.snoc hin hm
        · rw [decide_eq_false hin]
          exact iteT ⟨.int (k : Int), rfl, (by show 2 ≤ sizeLine; decide), fun tp ntp => told (.inl hin) tp ntp⟩
      · obtain ⟨y5, y6, rfl, s6, et6, e6, em6, hf6⟩ := hW
        rw [List.length_map, take_full, ← take_snoc_flat er] at em6 hf6
        exact ⟨_, _, _, rfl, s6, e6, em6, hf6⟩
    · obtain ⟨y4, y5, y6, rfl, s4, e4, em4, hf⟩ := hW
      rw [take_full] at em4 hf
      refine ⟨.ref m, rfl, m, _, rfl, .inl (SqL.of em4), .ref D, rfl, D, _, rfl, .inl (SqL.of e4), _, _, rfl, rfl, _, rfl, ?_⟩
      rw [List.length_map, List.length_map]
      by_cases hlt : rs.flatten.length < ages.length
      · rw [decide_eq_true (by omega)]
        exact iteT ⟨(by show 2 ≤ sizeLine; decide), fun tp ntp => q _ _ (some (("room" : Str), .non)) (s4.trans (same_new ntp)) ⟨tp, _, rfl, upd_same, rfl⟩ (.inr (.inl ⟨⟨hf, hlt⟩, rfl⟩))⟩
      · rw [decide_eq_false (by omega)]
        exact iteF (q _ .non none s4 rfl (.inr (.inr ⟨hf, hlt, rfl⟩)))
end
end El
namespace El
open PySem PySem.Spec PyProof.Rows L2
/-- another list in the place of one -/
theorem RmsAt.lay {H : Hp} {B : Addr → Prop} {o q : Addr} {ts : List Addr} {rs : List (List Int)} {i : Nat} {r : List Int} (h : RmsAt H B o ts rs) (hi : i < rs.length) (e : H q = some (.lst (r.map V.int))) (bq : B q) (nq : q ∉ ts) (qo : q ≠ o) :
    RmsAt (upd H o (.lst ((ts.map V.ref).set i (.ref q)))) B o (ts.set i q) (rs.set i r) := by
  have inn : ∀ t ∈ ts.set i q, t = q ∨ t ∈ ts := fun t m => (List.mem_or_eq_of_mem_set m).symm
  have hn : ∀ t ∈ ts.set i q, t ≠ o := fun t m z => by
    rcases inn t m with y | y
    · exact qo (y ▸ z)
    · exact h.no (z ▸ y)
  refine ⟨by rw [upd_same, List.map_set], h.bo, ?_, fun m => hn o m rfl, ?_, fun j t x e1 e2 => ?_, fun t m => ?_⟩
  · rw [List.nodup_iff_pairwise_ne, List.pairwise_iff_getElem]
    intro a b ha hb hab
    rw [List.length_set] at ha hb
    rw [List.getElem_set, List.getElem_set]
    by_cases h1 : i = a
    · by_cases h2 : i = b
      · omega
      · rw [if_pos h1, if_neg h2]
        exact fun z => nq (z ▸ List.getElem_mem hb)
    · by_cases h2 : i = b
      · rw [if_neg h1, if_pos h2]
        exact fun z => nq (z ▸ List.getElem_mem ha)
      · rw [if_neg h1, if_neg h2]
        exact List.pairwise_iff_getElem.mp (List.nodup_iff_pairwise_ne.mp h.nd) a b ha hb hab
  · rw [List.length_set, List.length_set]
    exact h.len
  · rw [upd_ne (hn t (List.mem_of_getElem? e1))]
    by_cases hj : i = j
    · subst hj
      rw [List.getElem?_set_self (by rw [h.len]; exact hi)] at e1
      rw [List.getElem?_set_self hi] at e2
      obtain rfl : q = t := Option.some.inj e1
      obtain rfl : r = x := Option.some.inj e2
      exact e
    · rw [List.getElem?_set_ne hj] at e1 e2
      exact h.at' j t x e1 e2
  · rcases inn t m with rfl | m
    · exact bq
    · exact h.b t m
/-- the same rooms and one more, in a new list -/
theorem RmsAt.more1 {H : Hp} {B : Addr → Prop} {o e l : Addr} {ts : List Addr} {rs : List (List Int)} {r : List Int} (h : RmsAt H B o ts rs) (he : H e = some (.lst (r.map V.int))) (ne : e ∉ ts) (be : B e) (nl : H l = none) (bl : B l) :
    RmsAt (upd H l (.lst (ts.map V.ref ++ [.ref e]))) B l (ts ++ [e]) (rs ++ [r]) := by
  have live : ∀ t ∈ ts ++ [e], t ≠ l := fun t m z => by
    rcases List.mem_append.mp m with m | m
    · obtain ⟨i, ei⟩ := List.mem_iff_getElem?.mp m
      have hl := at_lt ei
      rw [h.len] at hl
      obtain ⟨x, ex⟩ := at_some hl
      have := h.at' i t x ei ex
      rw [z, nl] at this
      cases this
    · rw [List.mem_singleton.mp m] at z
      rw [z, nl] at he
      cases he
  refine ⟨by rw [upd_same, List.map_append]; rfl, bl, ?_, fun m => live l m rfl, by rw [List.length_append, List.length_append, h.len]; rfl, fun i t x e1 e2 => ?_, fun t m => ?_⟩
  · refine List.nodup_append.mpr ⟨h.nd, by simp, fun x hx y hy => ?_⟩
    rw [List.mem_singleton.mp hy]
    exact fun z => ne (z ▸ hx)
  · rw [upd_ne (live t (List.mem_of_getElem? e1))]
    by_cases hi : i < ts.length
    · rw [List.getElem?_append_left hi] at e1
      rw [List.getElem?_append_left (by rw [← h.len]; exact hi)] at e2
      exact h.at' i t x e1 e2
    · have hi' : i = ts.length := by
        have := at_lt e1
        rw [List.length_append, List.length_singleton] at this
        omega
      subst hi'
      rw [List.getElem?_append_right (Nat.le_refl _), Nat.sub_self] at e1
      rw [h.len, List.getElem?_append_right (Nat.le_refl _), Nat.sub_self] at e2
      obtain rfl : e = t := Option.some.inj e1
      obtain rfl : r = x := Option.some.inj e2
      exact he
  · rcases List.mem_append.mp m with m | m
    · exact h.b t m
    · rw [List.mem_singleton.mp m]
      exact be
theorem RmsAt.alive {H : Hp} {B : Addr → Prop} {o : Addr} {ts : List Addr} {rs : List (List Int)} (h : RmsAt H B o ts rs) {p : Addr} (np : H p = none) : p ∉ ts ∧ p ≠ o := by
  refine ⟨fun m => ?_, fun z => by rw [z, h.top] at np; cases np⟩
  obtain ⟨i, ei⟩ := List.mem_iff_getElem?.mp m
  have hl := at_lt ei
  rw [h.len] at hl
  obtain ⟨x, ex⟩ := at_some hl
  have := h.at' i p x ei ex
  rw [np] at this
  cases this
end El
namespace El
open PySem PySem.Spec PyProof.Rows L2
section
variable {P : Program} {w : World} {K : PySem.W.Frag} {mg : Str → Option Value} {base : Heap}
abbrev s__law_bent : Stmt := topS 31
abbrev N__law_bent : List Str := ["bag", "folk", "parts", "way", "at", "room"]
abbrev P__law_bent : List Str := ["bag", "folk"]
theorem sc__law_bent : FnScope N__law_bent P__law_bent (defScope s__law_bent) := ⟨rfl, rfl, rfl, by decide +kernel, rfl, by decide +kernel, by decide +kernel⟩
def sp__law_bent : Sp := fun vs H Q _ => ∃ (b g a : Addr) (n : Nat) (ts : List Addr) (gs : List (Int × Int)), vs = [.ref b, .ref a] ∧ Bag H b g n ∧ n ≤ 800000000 ∧ GsAt H (Off b g) a ts gs ∧ Fit gs ∧ gs.length ≤ 60 ∧
  ∀ H' o us rs, Kp (Off b g) H H' → Bag H' b g (n + 10) → RmsAt H' (fun z => H z = none) o us rs → rs.length ≤ 100 → Q (.ref o) H'
def BentW (b g a l : Addr) (H : Hp) (N way k n c : Nat) (σ : L2.St) (H2 : Hp) : Prop := ∃ y5 us rs, σ = [some (.ref b), some (.ref a), some (.ref l), some (.int (way : Int)), some (.int (k : Int)), y5] ∧ Kp (Off b g) H H2 ∧ Bag H2 b g n ∧ RmsAt H2 (fun z => H z = none) l us rs ∧ rs.length = N ∧ ∀ r ∈ rs, r.length ≤ c
theorem BentW.mut {b g a l : Addr} {H H7 : Hp} {N way k n c : Nat} {y5 : Option V} {us : List Addr} {rs : List (List Int)} {t : Addr} {r' : List Int} (off : ∀ z, H z = none → Off b g z) (kp : Kp (Off b g) H H7) (T : Bag H7 b g n) (R : RmsAt H7 (fun z => H z = none) l us rs) (hN : rs.length = N) (hc : ∀ r ∈ rs, r.length ≤ c) (et : us[k]? = some t) (hr : r'.length ≤ c) :
    BentW b g a l H N way k n c [some (.ref b), some (.ref a), some (.ref l), some (.int (way : Int)), some (.int (k : Int)), y5] (upd H7 t (.lst (r'.map V.int))) := by
  have bt := R.b t (List.mem_of_getElem? et)
  refine ⟨_, _, _, rfl, fun z x hz e => ?_, T.mut (off t bt), R.set et r', by rw [List.length_set]; exact hN, fun r m => ?_⟩
  · have zt : z ≠ t := fun y => by rw [y, bt] at e; cases e
    rw [upd_ne zt]
    exact kp z x hz e
  · rcases List.mem_or_eq_of_mem_set m with m | rfl
    · exact hc r m
    · exact hr
theorem BentW.more {b g a l : Addr} {H H2 : Hp} {N way k n m c d : Nat} {σ : L2.St} (h : BentW b g a l H N way k n c σ H2) (hn : n ≤ m) (hc : c ≤ d) : BentW b g a l H N way k m d σ H2 := by
  obtain ⟨y5, us, rs, e, kp, T, R, hN, hb⟩ := h
  exact ⟨y5, us, rs, e, kp, T.more hn, R, hN, fun r m => Nat.le_trans (hb r m) hc⟩
theorem ok__law_bent (A : At K mg "_law_bent" P__law_bent s__law_bent) (B : Bi mg) (D__law_draw : Df P w K mg base 1 "_law_draw" P__law_draw s__law_draw sp__law_draw) (D__law_by_age : Df P w K mg base 1 "_law_by_age" P__law_by_age s__law_by_age sp__law_by_age) : Df P w K mg base 2 "_law_bent" P__law_bent s__law_bent sp__law_bent := by
  refine A.df fun f fd F => F.ok sc__law_bent (fun vs H Q E h => ?_) (fun cdv AA outer s H vs Q E hr h => ?_)
  · obtain ⟨_, _, _, _, _, _, rfl, _⟩ := h
    rfl
  · obtain ⟨b, g, a, n, ts, gs, rfl, hT, hn, hG, hF, hl, q⟩ := h
    have nd := sc__law_bent.nd
    refine ⟨_, (pss_cons (ps_set (i := 2) nd rfl (.inl rfl) (pe_op op_cat (pe_lc (own := [("room", 5)]) (tt := tYes) rfl nd (pi_list (pe_df D__law_by_age (hr.mono (by decide)) (by rfl) (pa_cons (pv 1) pa_nil))) (blkOk_by (N := N__law_bent) (sc := defScope s__law_bent) (by decide +kernel)) (fun _ _ _ _ _ => (pg_name (i := 5) nd rfl (.inl rfl))) (fun _ _ _ _ _ => pts_nil) (fun _ _ _ _ _ => (pe_callTy (listOfK K) (by rfl) B.list_ (by decide +kernel) (pa_cons (pv 5) pa_nil)))) (pe_lst (pa_cons (pe_lst pa_nil) pa_nil))))
    (pss_cons (ps_par (i := 3) (j := 4) (by rfl) nd rfl rfl (by decide) rfl rfl (pa_cons (pe_df D__law_draw (hr.mono (by decide)) (by rfl) (pa_cons (pv 0) (pa_cons pe_int pa_nil))) (pa_cons (pe_df D__law_draw (hr.mono (by decide)) (by rfl) (pa_cons (pv 0) (pa_cons (pe_callB call_len_seq (by rfl) B.len PySem.boot_len (pa_cons (pv 2) pa_nil)) pa_nil))) pa_nil)) (by rfl))
    (pss_cons (ps_if (pt_cmpR op_eq (pv 3) pe_int (nomark _)) (pss_one (ps_expr (pe_bm PySem.F.plainAttrs_list PySem.F.slot_list_append PySem.F.type_list_append mt_append (pe_ix ix_list (pv 2) (pv 4) (fun _ _ => rfl)) (pa_cons (pe_op op_add (pe_op op_pow pe_int pe_int) (pe_df D__law_draw (hr.mono (by decide)) (by rfl) (pa_cons (pv 0) (pa_cons pe_int pa_nil)))) pa_nil)))) pss_nil)
    (pss_cons (ps_if (PW.pt (pw_and (pt_cmpR op_eq (pv 3) pe_int (nomark _)) (pw_and1 (pt_cmpR op_gt (pe_callB call_len_seq (by rfl) B.len PySem.boot_len (pa_cons (pv 1) pa_nil)) pe_int (nomark _))))) (pss_one (ps_expr (pe_bm PySem.F.plainAttrs_list PySem.F.slot_list_insert PySem.F.type_list_insert mt_insert (pe_ix ix_list (pv 2) (pv 4) (fun _ _ => rfl)) (pa_cons pe_int (pa_cons (pe_ix ix_tup (pe_ix ix_list (pv 1) (pe_df D__law_draw (hr.mono (by decide)) (by rfl) (pa_cons (pv 0) (pa_cons (pe_callB call_len_seq (by rfl) B.len PySem.boot_len (pa_cons (pv 1) pa_nil)) pa_nil))) (fun _ _ => rfl)) pe_int (fun _ _ => rfl)) pa_nil))))) pss_nil)
    (pss_cons (ps_if (pt_cmpR op_eq (pv 3) pe_int (nomark _)) (pss_one (ps_asg (pe_slice sl_list (pe_ix ix_list (pv 2) (pv 4) (fun _ _ => rfl)) (po_some pe_int) po_none) (pg_sub (pv 2) (pv 4) set_list))) pss_nil)
    (pss_one (ps_ret (pv 2)))))))), ?_⟩
    have offD : ∀ z, H z = none → Off b g z := fun z hz => hT.off hz
    have lset : (settle gs).length ≤ 60 := Nat.le_trans (settleL_len _) (by rw [byAge_length]; exact hl)
    have lrm : ∀ r ∈ settle gs, r.length ≤ 60 := fun r m => by
      have h1 : r.length ≤ (byAge gs).length := settleL_room m
      rw [byAge_length] at h1
      omega
    -- parts
    refine ⟨.ref a, rfl, _, a, ts, gs, rfl, hG, hF, by omega, fun H1 o1 us1 s1 R1 => ?_⟩
    refine ⟨o1, rfl, ⟨_, R1.seq⟩, fun D1 n1 => ?_⟩
    refine lc_it (walk_list (xs := us1.map V.ref)) (fun i H2 => Same H1 H2 ∧ ∃ lts, RmsAt H2 (fun z => H z = none) D1 lts ((settle gs).take i)) ⟨same_new n1, [], RmsAt.nil upd_same (s1.free n1)⟩ (fun i H2 _ hW => (R1.same hW.1).seq) (fun i x H2 H3 hi hW hY => ?_) (fun H3 hW => ?_)
    · obtain ⟨sm, lts, hL⟩ := hW
      obtain ⟨rfl, hx⟩ := hY
      obtain ⟨t, r, rfl, _, er, et⟩ := (R1.same sm).get hx
      refine ⟨rfl, .ref t, rfl, t, _, rfl, .inl (SqL.of et), fun c nc => ?_⟩
      have ncD : D1 ≠ c := ne_of_none hL.top nc
      refine ⟨_, by rw [upd_ne ncD]; exact hL.top, ils (by rw [List.length_map, hL.len, List.length_take]; omega), Same.mut (Same.trans sm (same_new nc)) n1, lts ++ [c], ?_⟩
      rw [take_snoc er]
      exact hL.push nc (s1.free (sm.free nc))
    obtain ⟨s3, lts, hL⟩ := hW
    rw [List.length_map, R1.len, take_full] at hL
    refine ⟨Nat.zero_le _, fun e ne => ⟨(by show 1 ≤ sizeLine; decide), fun le nle => ?_⟩⟩
    have se := same_new (o := .lst []) ne
    have sle := same_new (o := .lst [.ref e]) nle
    have s13 := s1.trans s3
    have hL2 := (hL.same se).same sle
    have ee := sle _ _ (upd_same (H := H3) (a := e) (o := .lst []))
    refine ⟨D1, le, _, _, rfl, rfl, hL2.top, upd_same, ile (by rw [List.length_map, hL.len]; show _ + 1 ≤ 100000; omega), fun l nl => ?_⟩
    have hlive : ∀ z, upd (upd H3 e (.lst [])) le (.lst [.ref e]) z = none → H z = none := fun z hz => s13.free (se.free (sle.free hz))
    have R4 := hL2.more1 (r := []) ee (hL.alive ne).1 (s13.free ne) nl (hlive l nl)
    have s4 := s13.trans (se.trans (sle.trans (same_new (o := .lst (lts.map V.ref ++ [.ref e])) nl)))
    revert R4 s4
    generalize upd (upd (upd H3 e (.lst [])) le (.lst [.ref e])) l (.lst (lts.map V.ref ++ [.ref e])) = H4
    intro R4 s4
    have l4 : (settle gs ++ [[]]).length = (settle gs).length + 1 := by rw [List.length_append]; rfl
    have lr4 : ∀ r ∈ settle gs ++ [[]], r.length ≤ 60 := fun r m => by
      rcases List.mem_append.mp m with m | m
      · exact lrm r m
      · rw [List.mem_singleton.mp m]
        exact Nat.zero_le _
    revert R4 l4 lr4
    generalize settle gs ++ [[]] = rs4
    intro R4 l4 lr4
    have T4 := hT.keep s4
    -- way, at
    refine ⟨.ref b, rfl, b, g, n, 5, rfl, T4, by omega, by decide, by decide, fun H5 r5 k5 T5 a5 b5 => ?_⟩
    obtain ⟨way, rfl⟩ : ∃ k : Nat, r5 = k := ⟨r5.toNat, by omega⟩
    have R5 := R4.keep (k5.weak offD)
    refine ⟨.ref b, rfl, .ref l, rfl, l, _, rfl, .inl R5.seq, b, g, _, _, rfl, T5, by omega, ?_, ?_, fun H6 r6 k6 T6 a6 b6 => ?_⟩
    · rw [List.length_map, R5.len, l4]
      omega
    · rw [List.length_map, R5.len, l4]
      exact Int.lt_of_le_of_lt (show (((settle gs).length + 1 : Nat) : Int) ≤ 61 by omega) (by decide)
    rw [List.length_map, R5.len] at b6
    obtain ⟨k, rfl⟩ : ∃ k : Nat, r6 = k := ⟨r6.toNat, by omega⟩
    have hk : k < rs4.length := by omega
    have R6 := R5.keep (k6.weak offD)
    have kp6 : Kp (Off b g) H H6 := ((Kp.of s4).trans k5).trans k6
    refine ⟨_, _, rfl, ?_⟩
    dsimp only
    -- way 0
    have W0 : BentW b g a l H rs4.length way k (n + 2) 60 [some (.ref b), some (.ref a), some (.ref l), some (.int (way : Int)), some (.int (k : Int)), none] H6 := ⟨_, _, _, rfl, kp6, T6, R6, rfl, lr4⟩
    have hG6 : GsAt H6 (Off b g) a ts gs := hG.keep kp6
    revert hk W0 hG6
    clear R6 kp6 T6 R5 R4 T5 T4 k6 k5 s4 b6
    generalize rs4.length = N at l4
    intro hk W0 hG6
    refine seq_to (BentW b g a l H N way k (n + 3) 61) (fun X hX => ?_) (fun σ H7 hE => ?_)
    · refine ⟨_, rfl, rfl, _, rfl, ite2 (fun e0 => ?_) (fun e0 => hX _ _ (W0.more (by omega) (by decide)))⟩
      obtain ⟨y5, us, rs, e, kp, T, R, hN, hb⟩ := W0
      obtain ⟨r, er⟩ := at_some (l := rs) (i := k) (by omega)
      obtain ⟨t, et, eh⟩ := R.of er
      refine ⟨.ref l, rfl, .int (k : Int), rfl, l, _, _, .ref t, rfl, rfl, R.seq, atI_nat (j := k) (by rw [List.getElem?_map, et]; rfl), .inl ⟨rfl, _, SqL.of eh⟩, ?_⟩
      refine ⟨_, _, rfl, rfl, ⟨by decide, by decide, by decide⟩, .ref b, rfl, b, g, _, 99, rfl, T, by omega, by decide, by decide, fun H7 r7 k7 T7 a7 b7 => ⟨_, _, rfl, rfl, ?_⟩⟩
      have R7 := R.keep (k7.weak offD)
      have eh7 := R7.at' k t r et er
      have lr := hb r (List.mem_of_getElem? er)
      refine ⟨t, _, _, rfl, rfl, eh7, ils (by rw [List.length_map]; omega), ?_⟩
      have e1 : r.map V.int ++ [V.int (10 ^ Int.toNat 28 + r7)] = (r ++ [10 ^ Int.toNat 28 + r7]).map V.int := by rw [List.map_append]; rfl
      show X _ (upd H7 t (.lst (r.map V.int ++ [V.int (10 ^ Int.toNat 28 + r7)])))
      rw [e1]
      exact hX _ _ (BentW.mut (c := 61) offD (kp.trans k7) (T7.more (by omega)) R7 hN (fun r m => Nat.le_trans (hb r m) (by decide)) et (by rw [List.length_append]; show r.length + 1 ≤ 61; omega))
    · clear W0
      obtain ⟨y5, us, rs, rfl, kp, T, R, hN, hb⟩ := hE
      have W1 : BentW b g a l H N way k (n + 3) 61 [some (.ref b), some (.ref a), some (.ref l), some (.int (way : Int)), some (.int (k : Int)), y5] H7 := ⟨_, _, _, rfl, kp, T, R, hN, hb⟩
      have hG7 : GsAt H7 (Off b g) a ts gs := hG.keep kp
      refine seq_to (BentW b g a l H N way k (n + 4) 62) (fun X hX => ?_) (fun σ H8 hE => ?_)
      · refine ⟨_, rfl, rfl, _, rfl, ite2 (fun e0 => ?_) (fun e0 => hX _ _ (W1.more (by omega) (by decide)))⟩
        refine ⟨.ref a, rfl, a, _, rfl, .inl hG7.seq, _, _, rfl, rfl, _, rfl, ite2 (fun e1 => ?_) (fun e1 => hX _ _ (W1.more (by omega) (by decide)))⟩
        have hpos : 0 < gs.length := by
          have := of_decide_eq_true e1
          rw [List.length_map, hG.len] at this
          omega
        obtain ⟨r, er⟩ := at_some (l := rs) (i := k) (by omega)
        obtain ⟨t, et, eh⟩ := R.of er
        refine ⟨.ref l, rfl, .int (k : Int), rfl, l, _, _, .ref t, rfl, rfl, R.seq, atI_nat (j := k) (by rw [List.getElem?_map, et]; rfl), .inl ⟨rfl, _, SqL.of eh⟩, ?_⟩
        refine ⟨.ref a, rfl, .ref b, rfl, .ref a, rfl, a, _, rfl, .inl hG7.seq, b, g, _, _, rfl, T, by omega, ?_, ?_, fun H9 r9 k9 T9 a9 b9 => ?_⟩
        · rw [List.length_map, hG.len]
          omega
        · rw [List.length_map, hG.len]
          exact Int.lt_of_le_of_lt (show (gs.length : Int) ≤ 60 by omega) (by decide)
        rw [List.length_map, hG.len] at b9
        obtain ⟨j, rfl⟩ : ∃ j : Nat, r9 = j := ⟨r9.toNat, by omega⟩
        obtain ⟨x, ex⟩ := at_some (l := gs) (i := j) (by omega)
        have hG9 := hG7.keep k9
        obtain ⟨u, eu, hu⟩ := hG9.at_ ex
        have R9 := R.keep (k9.weak offD)
        have eh9 := R9.at' k t r et er
        have lr := hb r (List.mem_of_getElem? er)
        refine ⟨a, _, _, .ref u, rfl, rfl, hG9.seq, atI_nat (j := j) eu, u, _, _, .int x.1, rfl, rfl, SqT.of hu, atI_nat (j := 0) rfl, ?_⟩
        refine ⟨t, _, 0, .int x.1, rfl, rfl, eh9, ils (by rw [List.length_map]; omega), by decide, by omega, ?_⟩
        have e1 : (r.map V.int).take (0 : Int).toNat ++ [V.int x.1] ++ (r.map V.int).drop (0 : Int).toNat = (x.1 :: r).map V.int := rfl
        rw [e1]
        exact hX _ _ (BentW.mut (c := 62) offD (kp.trans k9) (T9.more (by omega)) R9 hN (fun r m => Nat.le_trans (hb r m) (by decide)) et (by rw [List.length_cons]; omega))
      · clear W1
        obtain ⟨y5, us, rs, rfl, kp, T, R, hN, hb⟩ := hE
        have W2 : BentW b g a l H N way k (n + 4) 62 [some (.ref b), some (.ref a), some (.ref l), some (.int (way : Int)), some (.int (k : Int)), y5] H8 := ⟨_, _, _, rfl, kp, T, R, hN, hb⟩
        refine seq_to (BentW b g a l H N way k (n + 4) 62) (fun X hX => ?_) (fun σ H9 hE => ?_)
        · refine ⟨_, rfl, rfl, _, rfl, ite2 (fun e0 => ?_) (fun e0 => hX _ _ W2)⟩
          obtain ⟨r, er⟩ := at_some (l := rs) (i := k) (by omega)
          obtain ⟨t, et, eh⟩ := R.of er
          refine ⟨.ref l, rfl, .int (k : Int), rfl, l, _, _, .ref t, rfl, rfl, R.seq, atI_nat (j := k) (by rw [List.getElem?_map, et]; rfl), _, rfl, t, _, rfl, SqL.of eh, fun p np => ?_⟩
          rw [cut_1, ← List.map_drop]
          have sp := same_new (o := .lst ((r.drop 1).map V.int)) np
          have Rp := R.same sp
          have np0 : H p = none := kp.none (T.off np) np
          refine ⟨.ref l, rfl, .int (k : Int), rfl, l, _, _, k, rfl, rfl, Rp.top, ixN_of (by rw [List.length_map, R.len]; omega), hX _ _ ?_⟩
          have nal := R.alive np
          refine ⟨_, _, _, rfl, ?_, ?_, Rp.lay (r := r.drop 1) (by omega) upd_same np0 nal.1 nal.2, by rw [List.length_set]; exact hN, fun z m => ?_⟩
          · exact (kp.trans (.of sp)).mutF R.bo
          · exact (T.keep sp).mut (offD l R.bo)
          · rcases List.mem_or_eq_of_mem_set m with m | rfl
            · exact hb z m
            · rw [List.length_drop]
              have := hb r (List.mem_of_getElem? er)
              omega
        · obtain ⟨y5, us, rs, rfl, kp, T, R, hN, hb⟩ := hE
          exact ⟨.ref l, rfl, q H9 l us rs kp (T.more (by omega)) R (by omega)⟩
end
end El
namespace El
open PySem PySem.Spec PyProof.Rows L2
theorem with_key {W : WX} {G : Prop} {Pk : Value → Option Addr → Hp → Prop} {σ : L2.St} (main : (∀ c d H1, Pk c d H1 → W c d σ H1) → G) (k : ∀ c d H1, Pk c d H1 → W c d σ H1) : G := main k
/-- an error of the class at C, as the suite asks: of guests, of rooms, of a room -/
structure KdG (K : PySem.W.Frag) (mg : Str → Option Value) (C0 CG CS CR CC CT C : Addr) (b0 b1 b2 : Bool) : Prop where
  ex : ∃ (x : Str) (fI : Addr), Own K mg x C fI
  te : PySem.W.exmOne K (.ref C) (.ref C0) = some true
  k0 : PySem.W.kitOne K (.ref C) (.ref CG) = some b0
  k1 : PySem.W.kitOne K (.ref C) (.ref CS) = some b1
  k2 : PySem.W.kitOne K (.ref C) (.ref CR) = some b2
  kn : PySem.W.kitAny K (.ref C) [.ref CC, .ref CT] = some false
  kv : PySem.W.kitOne K (.ref C) (.type "ValueError") = some true
  one : (b0 = true ∧ b1 = false ∧ b2 = false) ∨ (b0 = false ∧ b1 = true ∧ b2 = false) ∨ (b0 = false ∧ b1 = false ∧ b2 = true)
def wG (b0 b1 : Bool) : Str := if b0 = true then ("guest" : Str) else if b1 = true then ("rooms" : Str) else ("room" : Str)
def iG (b0 b1 : Bool) : Nat := if b0 = true then 0 else if b1 = true then 1 else 2
theorem idxG {b0 b1 b2 : Bool} (h : (b0 = true ∧ b1 = false ∧ b2 = false) ∨ (b0 = false ∧ b1 = true ∧ b2 = false) ∨ (b0 = false ∧ b1 = false ∧ b2 = true)) : ∀ (m : Nat) (z : V), m < iG b0 b1 → ([V.bl b0, .bl b1, .bl b2] : List V)[m]? = some z → eqV z (V.bl true) = false := by
  intro m z hm e
  rcases h with ⟨rfl, rfl, rfl⟩ | ⟨rfl, rfl, rfl⟩ | ⟨rfl, rfl, rfl⟩
  · exact absurd hm (Nat.not_lt_zero _)
  · have hm : m < 1 := hm
    obtain rfl : m = 0 := by omega
    obtain rfl : V.bl false = z := Option.some.inj e
    rfl
  · have hm : m < 2 := hm
    rcases m with _ | _ | m
    · obtain rfl : V.bl false = z := Option.some.inj e
      rfl
    · obtain rfl : V.bl false = z := Option.some.inj e
      rfl
    · omega
/-- what one of the four askings is to be refused with -/
def Cght (wh : Int) (gs : List (Int × Int)) (rs : List (List Int)) (n x y : Int) (D : Option (Str × Dv)) : Prop :=
  (∃ i, FirstBad gs i ∧ D = some (("guest" : Str), .num (i : Nat))) ∨ (Fit gs ∧ ((wh = 0 ∧ ((n < 0 ∧ D = some (("rooms" : Str), .num n)) ∨ (0 ≤ n ∧ D = none))) ∨ (wh = 1 ∧ RoomIs (gs.map (·.1)) rs D) ∨ (wh = 2 ∧ D = none) ∨
    (wh = 3 ∧ (((y < 0 ∨ x ∈ gs.map (·.1)) ∧ D = some (("guest" : Str), .two x y)) ∨ (0 ≤ y ∧ x ∉ gs.map (·.1) ∧ D = none)))))
section
variable {P : Program} {w : World} {K : PySem.W.Frag} {mg : Str → Option Value} {base : Heap}
abbrev s__law_caught : Stmt := topS 28
abbrev N__law_caught : List Str := ["which", "folk", "number", "parts", "more", "e", "sorts"]
abbrev P__law_caught : List Str := ["which", "folk", "number", "parts", "more"]
theorem sc__law_caught : FnScope N__law_caught P__law_caught (defScope s__law_caught) := ⟨rfl, rfl, rfl, by decide +kernel, rfl, by decide +kernel, by decide +kernel⟩
def sp__law_caught : Sp := fun vs H Q _ => ∃ (BB : Addr → Prop) (a o m : Addr) (wh n x y : Int) (ts us : List Addr) (gs : List (Int × Int)) (rs : List (List Int)) (D : Option (Str × Dv)), vs = [.int wh, .ref a, .int n, .ref o, .ref m] ∧ 0 ≤ wh ∧ wh ≤ 3 ∧ GsAt H BB a ts gs ∧ RdAt H o us rs ∧ H m = some (.tup [.int x, .int y]) ∧
  gs.length ≤ 900 ∧ rs.length ≤ 1000 ∧ n.natAbs < 10 ^ 200 ∧ x.natAbs < 10 ^ 200 ∧ y.natAbs < 10 ^ 200 ∧ Cght wh gs rs n x y D ∧ ∀ H' v, Same H H' → DvAt H' v D → Q v H'
theorem ok__law_caught {C0 CG CS CR CC CT : Addr} (A : At K mg "_law_caught" P__law_caught s__law_caught) (B : Bi mg) (G_InnError : mg "InnError" = some (.ref C0)) (G_NoGuest : mg "NoGuest" = some (.ref CG)) (G_NoRooms : mg "NoRooms" = some (.ref CS)) (G_NoRoom : mg "NoRoom" = some (.ref CR)) (G_NoCrowd : mg "NoCrowd" = some (.ref CC)) (G_NoText : mg "NoText" = some (.ref CT))
    (JX : IsX K) (KG : KdG K mg C0 CG CS CR CC CT CG true false false) (KS : KdG K mg C0 CG CS CR CC CT CS false true false) (KR : KdG K mg C0 CG CS CR CC CT CR false false true)
    (XD_sent_away : DfX P w K mg base 5 "sent_away" P_sent_away s_sent_away (sp_sent_away_x CG CS)) (XD_is_best : DfX P w K mg base 5 "is_best" P_is_best s_is_best (sp_is_best_x CG CR)) (XD_pairs : DfX P w K mg base 6 "pairs" P_pairs s_pairs (sp_pairs_x CG))
    (XD_one_more : DfX P w K mg base 4 "one_more" P_one_more s_one_more (sp_one_more_x CG)) : Df P w K mg base 7 "_law_caught" P__law_caught s__law_caught sp__law_caught := by
  refine A.df fun f fd F => F.ok sc__law_caught (fun vs H Q E h => ?_) (fun cdv AA outer s H vs Q E hr h => ?_)
  · obtain ⟨_, _, _, _, _, _, _, _, _, _, _, _, _, rfl, _⟩ := h
    rfl
  · obtain ⟨BB, a, o, m, wh, n, x, y, ts, us, gs, rs, D, rfl, hw0, hw3, hG, hR, hM, hl, hrl, hn, hx, hy, hC, q⟩ := h
    have nd := sc__law_caught.nd
    refine ⟨_, (pss_cons (ps_try_as (i := 5) (Wout := fun _ _ _ _ => False) rfl rfl nd rfl rfl ⟨rfl, by decide, .inl G_InnError⟩ takes0 (fun W pn xe tk po => (pss_cons (ps_if (pt_cmpR op_eq (pv 0) pe_int (nomark _)) (pss_one (ps_expr (pe_dfS XD_sent_away tk (hr.mono (by decide)) (by rfl) (pa_cons (pv 1) (pa_cons (pv 2) pa_nil))))) pss_nil) (pss_cons (ps_if (pt_cmpR op_eq (pv 0) pe_int (nomark _)) (pss_one (ps_expr (pe_dfS XD_is_best tk (hr.mono (by decide)) (by rfl) (pa_cons (pv 1) (pa_cons (pv 3) pa_nil))))) pss_nil) (pss_cons (ps_if (pt_cmpR op_eq (pv 0) pe_int (nomark _)) (pss_one (ps_expr (pe_dfS XD_pairs tk (hr.mono (by decide)) (by rfl) (pa_cons (pv 1) pa_nil)))) pss_nil) (pss_one (ps_if (pt_cmpR op_eq (pv 0) pe_int (nomark _)) (pss_one (ps_expr (pe_dfS XD_one_more tk (hr.mono (by decide)) (by rfl) (pa_cons (pv 1) (pa_cons (pe_ix (ixtK K) (pv 4) pe_int (fun _ _ => rfl)) (pa_cons (pe_ix (ixtK K) (pv 4) pe_int (fun _ _ => rfl)) pa_nil)))))) pss_nil)))))) (fun a oe cls d pn hz hf => (pss_cons (ps_set (i := 6) nd rfl (.inl rfl) (pe_lst (pa_cons (pe_callB (isAnyK K mg hz hf) (by rfl) B.isinstance (by decide +kernel) (pa_cons (pv 5) (pa_cons (pe_glob rfl G_NoGuest (relRef _)) pa_nil))) (pa_cons (pe_callB (isAnyK K mg hz hf) (by rfl) B.isinstance (by decide +kernel) (pa_cons (pv 5) (pa_cons (pe_glob rfl G_NoRooms (relRef _)) pa_nil))) (pa_cons (pe_callB (isAnyK K mg hz hf) (by rfl) B.isinstance (by decide +kernel) (pa_cons (pv 5) (pa_cons (pe_glob rfl G_NoRoom (relRef _)) pa_nil))) pa_nil))))) (pss_cons (ps_if (PW.pt (pw_or (pt_val (pe_callB (isAnyK K mg hz hf) (by rfl) B.isinstance (by decide +kernel) (pa_cons (pv 5) (pa_cons (pe_tup (pa_cons (pe_glob rfl G_NoCrowd (relRef _)) (pa_cons (pe_glob rfl G_NoText (relRef _)) pa_nil))) pa_nil)))) (pw_or (pt_not (pt_val (pe_callB (isAnyK K mg hz hf) (by rfl) B.isinstance (by decide +kernel) (pa_cons (pv 5) (pa_cons (pe_bltn (by rfl) B.ValueError_ bootVE (relTy _)) pa_nil))))) (pw_or1 (pt_cmpR op_ne (bmK K PySem.F.plainAttrs_list PySem.F.slot_list_count PySem.F.type_list_count (mtCountK K) (pv 6) (pa_cons pe_bl pa_nil)) pe_int (nomark _)))))) (pss_one (ps_ret (pe_tup (pa_cons pe_str (pa_cons pe_non pa_nil))))) pss_nil) (pss_one (ps_ret (pe_tup (pa_cons (pe_ix (ixtK K) (pe_tup (pa_cons pe_str (pa_cons pe_str (pa_cons pe_str pa_nil)))) (bmK K PySem.F.plainAttrs_list PySem.F.slot_list_index PySem.F.type_list_index (mtIndexK K) (pv 6) (pa_cons pe_bl pa_nil)) (fun _ _ => rfl)) (pa_cons (pe_xfA K hz hf (pv 5)) pa_nil)))))))))
    (pss_one (ps_ret pe_non))), ?_⟩
    have hl' : gs.length ≤ 1000 := by omega
    have fin : ∀ H1, Same H H1 → D = none → Q .non H1 := fun H1 s1 e => q H1 .non s1 (by rw [e]; rfl)
    refine' with_key (σ := [some (.int wh), some (.ref a), some (.int n), some (.ref o), some (.ref m), none, none]) (Pk := fun c d H1 => ∃ (C : Addr) (b0 b1 b2 : Bool) (v : V) (z : Dv) (dx : Addr), c = .ref C ∧ d = some dx ∧ KdG K mg C0 CG CS CR CC CT C b0 b1 b2 ∧ Same H H1 ∧ H1 dx = some (.xd [(("what" : Str), v)]) ∧ z.is H1 v ∧ D = some (wG b0 b1, z)) (fun key => ?_) (fun c d H1 hP => ?_)
    rotate_left
    · have bad : ∀ i, FirstBad gs i → D = some (("guest" : Str), .num (i : Nat)) → ∀ H' d, Same H H' → H' d = some (.xd [(("what" : Str), .int (i : Nat))]) → _ := fun i hb hD H' d s1 e => key (.ref CG) (some d) H' ⟨CG, true, false, false, _, .num (i : Nat), d, rfl, rfl, KG, s1, e, rfl, hD⟩
      have hw : wh = 0 ∨ wh = 1 ∨ wh = 2 ∨ wh = 3 := by omega
      rcases hw with rfl | rfl | rfl | rfl
      · refine ⟨_, rfl, rfl, _, rfl, iteT ⟨.ref a, rfl, .int n, rfl, ?_⟩⟩
        rcases hC with ⟨i, hb, hD⟩ | ⟨hF, hC⟩
        · exact .inr (.inl ⟨BB, a, ts, gs, i, [.int n], rfl, rfl, hG, hl', hb, bad i hb hD⟩)
        · rcases hC with ⟨_, ⟨hneg, hD⟩ | ⟨hpos, hD⟩⟩ | ⟨z, _⟩ | ⟨z, _⟩ | ⟨z, _⟩
          · exact .inr (.inr ⟨BB, a, ts, gs, n, rfl, hG, hF, hl', hneg, hn, fun H' d s1 e => key (.ref CS) (some d) H' ⟨CS, false, true, false, _, .num n, d, rfl, rfl, KS, s1, e, rfl, hD⟩⟩)
          · obtain ⟨j, rfl⟩ : ∃ j : Nat, n = j := ⟨n.toNat, by omega⟩
            exact .inl ⟨BB, a, ts, gs, j, rfl, hG, hF, hl', fun H' o' s1 _ _ => ⟨_, rfl, rfl, _, rfl, iteX (by rfl) ⟨_, rfl, rfl, _, rfl, iteX (by rfl) ⟨_, rfl, rfl, _, rfl, iteX (by rfl) (fin _ s1 hD)⟩⟩⟩⟩
          · cases z
          · cases z
          · cases z
      · refine ⟨_, rfl, rfl, _, rfl, iteX (by rfl) ⟨_, rfl, rfl, _, rfl, iteT ⟨.ref a, rfl, .ref o, rfl, ?_⟩⟩⟩
        rcases hC with ⟨i, hb, hD⟩ | ⟨hF, hC⟩
        · exact .inr (.inl ⟨BB, a, ts, gs, i, [.ref o], rfl, rfl, hG, hl', hb, bad i hb hD⟩)
        · rcases hC with ⟨z, _⟩ | ⟨_, hC⟩ | ⟨z, _⟩ | ⟨z, _⟩
          · cases z
          · rcases hC with ⟨k, ho, hD⟩ | ⟨hL, hD⟩ | ⟨hf, hnl, hD⟩
            · exact .inr (.inr ⟨BB, a, o, ts, us, gs, rs, rfl, hG, hF, hl', hR, hrl, .inl ⟨k, ho, fun H' d s1 e => key (.ref CR) (some d) H' ⟨CR, false, false, true, _, .num (k : Nat), d, rfl, rfl, KR, s1, e, rfl, hD⟩⟩⟩)
            · exact .inr (.inr ⟨BB, a, o, ts, us, gs, rs, rfl, hG, hF, hl', hR, hrl, .inr ⟨hL, fun H' d s1 e => key (.ref CR) (some d) H' ⟨CR, false, false, true, _, .non, d, rfl, rfl, KR, s1, e, rfl, hD⟩⟩⟩)
            · exact .inl ⟨BB, a, o, ts, us, gs, rs, rfl, hG, hF, hl', hR, hf.perm hF.nd hnl, hrl, fun H' s1 => ⟨_, rfl, rfl, _, rfl, iteX (by rfl) ⟨_, rfl, rfl, _, rfl, iteX (by rfl) (fin _ s1 hD)⟩⟩⟩
          · cases z
          · cases z
      · refine ⟨_, rfl, rfl, _, rfl, iteX (by rfl) ⟨_, rfl, rfl, _, rfl, iteX (by rfl) ⟨_, rfl, rfl, _, rfl, iteT ⟨.ref a, rfl, ?_⟩⟩⟩⟩
        rcases hC with ⟨i, hb, hD⟩ | ⟨hF, hC⟩
        · exact .inr ⟨BB, a, ts, gs, i, [], rfl, rfl, hG, hl', hb, bad i hb hD⟩
        · rcases hC with ⟨z, _⟩ | ⟨z, _⟩ | ⟨_, hD⟩ | ⟨z, _⟩
          · cases z
          · cases z
          · exact .inl ⟨BB, a, ts, gs, rfl, hG, hF, hl', fun H' s1 => ⟨_, rfl, rfl, _, rfl, iteX (by rfl) (fin _ s1 hD)⟩⟩
          · cases z
      · refine ⟨_, rfl, rfl, _, rfl, iteX (by rfl) ⟨_, rfl, rfl, _, rfl, iteX (by rfl) ⟨_, rfl, rfl, _, rfl, iteX (by rfl) ⟨_, rfl, rfl, _, rfl, iteT ⟨.ref a, rfl, .ref m, rfl, m, _, _, .int x, rfl, rfl, SqT.of hM, atI_nat (j := 0) rfl, .ref m, rfl, m, _, _, .int y, rfl, rfl, SqT.of hM, atI_nat (j := 1) rfl, ?_⟩⟩⟩⟩⟩
        rcases hC with ⟨i, hb, hD⟩ | ⟨hF, hC⟩
        · exact .inr (.inl ⟨BB, a, ts, gs, i, [.int x, .int y], rfl, rfl, hG, hl', hb, bad i hb hD⟩)
        · rcases hC with ⟨z, _⟩ | ⟨z, _⟩ | ⟨z, _⟩ | ⟨_, ⟨hb, hD⟩ | ⟨h0, hin, hD⟩⟩
          · cases z
          · cases z
          · cases z
          · exact .inr (.inr ⟨BB, a, ts, gs, x, y, rfl, hG, hF, hl', hb, hx, hy, fun H' d t s1 e et => key (.ref CG) (some d) H' ⟨CG, true, false, false, _, .two x y, d, rfl, rfl, KG, s1, e, ⟨t, rfl, et⟩, hD⟩⟩)
          · have hFx : Fit ((x, y) :: gs) := ⟨List.nodup_cons.mpr ⟨hin, hF.nd⟩, fun z m => by
              rcases List.mem_cons.mp m with rfl | m
              · exact h0
              · exact hF.pos z m⟩
            obtain ⟨d, hd, hL⟩ := (settle_near hFx).sizes
            exact .inl ⟨BB, a, ts, gs, (x, y), d, rfl, hG, hFx, hl, hd, hL, fun H' s1 => fin _ s1 hD⟩
    · obtain ⟨C, b0, b1, b2, v, z, dx, rfl, rfl, kd, s1, ed, hz, hD⟩ := hP
      obtain ⟨xn, fI, hO⟩ := kd.ex
      refine ⟨true, kd.te, fun _ a0 na => ?_, fun z => Bool.noConfusion z⟩
      refine ⟨.ref a0, rfl, xn, C, fI, dx, rfl, rfl, hO, JX, ⟨_, ed⟩, .inl ⟨.ref CG, .ref CG, _, rfl, fun u r => r, kd.k0, ?_⟩⟩
      refine ⟨.ref a0, rfl, xn, C, fI, dx, rfl, rfl, hO, JX, ⟨_, ed⟩, .inl ⟨.ref CS, .ref CS, _, rfl, fun u r => r, kd.k1, ?_⟩⟩
      refine ⟨.ref a0, rfl, xn, C, fI, dx, rfl, rfl, hO, JX, ⟨_, ed⟩, .inl ⟨.ref CR, .ref CR, _, rfl, fun u r => r, kd.k2, ?_⟩⟩
      refine ⟨(by show 3 ≤ sizeLine; decide), fun so nso => ?_⟩
      have sso := same_new (o := .lst [.bl b0, .bl b1, .bl b2]) nso
      have eso : upd H1 so (.lst [.bl b0, .bl b1, .bl b2]) so = some (.lst [.bl b0, .bl b1, .bl b2]) := upd_same
      have ed2 := sso _ _ ed
      have s2 := s1.trans sso
      have hz2 := hz.same sso
      revert eso ed2 s2 hz2
      generalize upd H1 so (.lst [.bl b0, .bl b1, .bl b2]) = H2
      intro eso ed2 s2 hz2
      have hk := kd.one
      refine ⟨.ref a0, rfl, (by show 2 ≤ sizeLine; decide), fun tp ntp => ?_⟩
      have stp := same_new (o := .tup [.ref CC, .ref CT]) ntp
      refine ⟨xn, C, fI, dx, rfl, rfl, hO, JX, ⟨_, stp _ _ ed2⟩, .inr ⟨tp, _, _, false, rfl, SqT.of upd_same, fun us r => valsRefs (l := [CC, CT]) r, kd.kn, false, rfl, iteF ?_⟩⟩
      have ed3 := stp _ _ ed2
      have eso3 := stp _ _ eso
      have s3 := s2.trans stp
      have hz3 := hz2.same stp
      revert ed3 eso3 s3 hz3
      generalize upd H2 tp (.tup [.ref CC, .ref CT]) = H3
      intro ed3 eso3 s3 hz3
      refine ⟨.ref a0, rfl, xn, C, fI, dx, rfl, rfl, hO, JX, ⟨_, ed3⟩, .inl ⟨.ty "ValueError", .type "ValueError", true, rfl, fun u r => r, kd.kv, true, rfl, iteF ?_⟩⟩
      have hcnt : (([V.bl b0, .bl b1, .bl b2] : List V).countP fun z => eqV z (.bl true)) = 1 := by
        rcases hk with ⟨rfl, rfl, rfl⟩ | ⟨rfl, rfl, rfl⟩ | ⟨rfl, rfl, rfl⟩ <;> rfl
      refine ⟨.ref so, rfl, .inl ⟨rfl, _, SqL.of eso3⟩, so, _, .bl true, rfl, rfl, SqL.of eso3, rfl, rfl, ?_⟩
      rw [hcnt]
      refine ⟨rfl, _, rfl, iteX (by rfl) ?_⟩
      refine ⟨(by show 3 ≤ sizeLine; decide), fun tw ntw => ?_⟩
      have stw := same_new (o := .tup [.str "guest", .str "rooms", .str "room"]) ntw
      have etw : upd H3 tw (.tup [.str "guest", .str "rooms", .str "room"]) tw = some (.tup [.str "guest", .str "rooms", .str "room"]) := upd_same
      have ed4 := stw _ _ ed3
      have eso4 := stw _ _ eso3
      have s4 := s3.trans stw
      have hz4 := hz3.same stw
      revert etw ed4 eso4 s4 hz4
      generalize upd H3 tw (.tup [.str "guest", .str "rooms", .str "room"]) = H4
      intro etw ed4 eso4 s4 hz4
      have hix : ([V.bl b0, .bl b1, .bl b2] : List V)[iG b0 b1]? = some (.bl true) := by
        rcases hk with ⟨rfl, rfl, rfl⟩ | ⟨rfl, rfl, rfl⟩ | ⟨rfl, rfl, rfl⟩ <;> rfl
      have hwd : ([V.str "guest", .str "rooms", .str "room"] : List V)[iG b0 b1]? = some (.str (wG b0 b1)) := by
        rcases hk with ⟨rfl, rfl, rfl⟩ | ⟨rfl, rfl, rfl⟩ | ⟨rfl, rfl, rfl⟩ <;> rfl
      refine ⟨.ref so, rfl, .inl ⟨rfl, _, SqL.of eso4⟩, so, _, .bl true, iG b0 b1, .bl true, rfl, rfl, SqL.of eso4, rfl, rfl, hix, rfl, idxG hk, ?_⟩
      refine ⟨tw, _, _, .str (wG b0 b1), rfl, rfl, SqT.of etw, atI_nat hwd, ?_⟩
      refine ⟨C, hO.xf, hO.no, .ref a0, rfl, rfl, rfl, dx, _, v, rfl, ed4, rfl, (by show 2 ≤ sizeLine; decide), fun t nt => ?_⟩
      have st := same_new (o := .tup [.str (wG b0 b1), v]) nt
      refine q _ (.ref t) (s4.trans st) ?_
      rw [hD]
      exact ⟨t, v, rfl, upd_same, hz4.same st⟩
end
end El
namespace El
open PySem PySem.Spec PyProof.Rows L2
theorem GsAt.lay {H : Hp} {B : Addr → Prop} {a : Addr} {ts : List Addr} {gs : List (Int × Int)} (h : GsAt H B a ts gs) (hn : a ∉ ts) {k : Nat} {q : Addr} {g : Int × Int} (e : H q = some (.tup [.int g.1, .int g.2])) (bq : B q) :
    GsAt (upd H a (.lst ((ts.map V.ref).set k (.ref q)))) B a (ts.set k q) (gs.set k g) ∧ a ∉ ts.set k q := by
  have nq : q ≠ a := fun z => by
    rw [z, h.top] at e
    cases e
  refine ⟨⟨by rw [upd_same, List.map_set], h.ba, by rw [List.length_set, List.length_set, h.len], fun i t x e1 e2 => ?_, fun t m => ?_⟩, fun m => ?_⟩
  · by_cases hi : i = k
    · subst hi
      have h1 := at_lt e1
      rw [List.length_set] at h1
      rw [List.getElem?_set_self h1] at e1
      rw [List.getElem?_set_self (by rw [← h.len]; exact h1)] at e2
      obtain rfl := Option.some.inj e1
      obtain rfl := Option.some.inj e2
      rw [upd_ne nq]
      exact e
    · rw [List.getElem?_set_ne (fun z => hi z.symm)] at e1 e2
      have nt : t ≠ a := fun z => hn (z ▸ List.mem_of_getElem? e1)
      rw [upd_ne nt]
      exact h.at' i t x e1 e2
  · rcases List.mem_or_eq_of_mem_set m with m | rfl
    · exact h.b t m
    · exact bq
  · rcases List.mem_or_eq_of_mem_set m with m | z
    · exact hn m
    · exact nq z.symm
theorem room_word {ages : List Int} {rs : List (List Int)} {D : Option (Str × Dv)} (h : RoomIs ages rs D) : ∀ s x, D = some (s, x) → PyData.strOk s = true := fun s x e => by
  have ok : PyData.strOk ("room" : Str) = true := by decide +kernel
  rcases h with ⟨_, _, rfl⟩ | ⟨_, rfl⟩ | ⟨_, _, rfl⟩
  · rw [← (Prod.mk.inj (Option.some.inj e)).1]
    exact ok
  · rw [← (Prod.mk.inj (Option.some.inj e)).1]
    exact ok
  · cases e
theorem cght_word {wh : Int} {gs : List (Int × Int)} {rs : List (List Int)} {n x y : Int} {D : Option (Str × Dv)} (h : Cght wh gs rs n x y D) : ∀ s z, D = some (s, z) → PyData.strOk s = true := fun s z e => by
  have k1 : PyData.strOk ("guest" : Str) = true := by decide +kernel
  have k2 : PyData.strOk ("rooms" : Str) = true := by decide +kernel
  rcases h with ⟨_, _, rfl⟩ | ⟨_, ⟨_, ⟨_, rfl⟩ | ⟨_, rfl⟩⟩ | ⟨_, h⟩ | ⟨_, rfl⟩ | ⟨_, ⟨_, rfl⟩ | ⟨_, _, rfl⟩⟩⟩
  · rw [← (Prod.mk.inj (Option.some.inj e)).1]
    exact k1
  · rw [← (Prod.mk.inj (Option.some.inj e)).1]
    exact k2
  · cases e
  · exact room_word h s z e
  · cases e
  · rw [← (Prod.mk.inj (Option.some.inj e)).1]
    exact k1
  · cases e
theorem DvAt.mutL {H : Hp} {d : Addr} {xs ys : List V} (e : H d = some (.lst xs)) {v : V} : ∀ {D : Option (Str × Dv)}, DvAt H v D → DvAt (upd H d (.lst ys)) v D
  | none, h => h
  | some (s, x), ⟨t, u, ev, h, hx⟩ => by
    have nt : t ≠ d := fun z => by rw [z, e] at h; cases h
    refine ⟨t, u, ev, by rw [upd_ne nt]; exact h, ?_⟩
    cases x with
    | num i => exact hx
    | non => exact hx
    | two i j =>
      obtain ⟨t2, e2, h2⟩ := hx
      have nt2 : t2 ≠ d := fun z => by rw [z, e] at h2; cases h2
      exact ⟨t2, e2, by rw [upd_ne nt2]; exact h2⟩
/-- what stands while a turn of the law goes on -/
structure Stand (b g o l m : Addr) (us : List Addr) (rs : List (List Int)) (x y : Int) (n c : Nat) (ts : List Addr) (gs : List (Int × Int)) (H : Hp) : Prop where
  T : Bag H b g n
  G : GsAt H (Off b g) o ts gs
  no : o ∉ ts
  len : gs.length ≤ c
  big : ∀ z ∈ gs, z.1.natAbs < 10 ^ 200
  R : RmsAt H (fun z => Off b g z ∧ z ≠ o) l us rs
  M : H m = some (.tup [.int x, .int y])
  om : Off b g m
section
variable {b g o l m : Addr} {us : List Addr} {rs : List (List Int)} {x y : Int} {n c : Nat} {ts : List Addr} {gs : List (Int × Int)} {H H' : Hp}
theorem Stand.draw {k : Nat} (h : Stand b g o l m us rs x y n c ts gs H) (kp : Kp (Off b g) H H') (T : Bag H' b g k) : Stand b g o l m us rs x y k c ts gs H' :=
  ⟨T, h.G.keep kp, h.no, h.len, h.big, h.R.keep (kp.weak fun _ z => z.1), kp _ _ h.om h.M, h.om⟩
theorem Stand.same (h : Stand b g o l m us rs x y n c ts gs H) (s : Same H H') : Stand b g o l m us rs x y n c ts gs H' := h.draw (.of s) (h.T.keep s)
theorem Stand.more {k d : Nat} (h : Stand b g o l m us rs x y n c ts gs H) (hn : n ≤ k) (hc : c ≤ d) : Stand b g o l m us rs x y k d ts gs H := { h with T := h.T.more hn, len := Nat.le_trans h.len hc }
theorem Stand.mut {ys : List V} {d : Nat} {ts' : List Addr} {gs' : List (Int × Int)} (h : Stand b g o l m us rs x y n c ts gs H) (G : GsAt (upd H o (.lst ys)) (Off b g) o ts' gs') (no : o ∉ ts') (len : gs'.length ≤ d) (big : ∀ z ∈ gs', z.1.natAbs < 10 ^ 200) : Stand b g o l m us rs x y n d ts' gs' (upd H o (.lst ys)) :=
  ⟨h.T.mut h.G.ba, G, no, len, big, h.R.keep (Kp.mut Kp.refl fun z => z.2 rfl), by
    have : m ≠ o := fun z => by
      have e := h.M
      rw [z, h.G.top] at e
      cases e
    rw [upd_ne this]
    exact h.M, h.om⟩
end
/-- the four dues in their list -/
def Dues (gs : List (Int × Int)) (rs : List (List Int)) (n x y : Int) (ds : List V) (H : Hp) : Prop := ∀ k : Nat, k < 4 → ∃ (v : V) (D : Option (Str × Dv)), ds[k]? = some v ∧ DvAt H v D ∧ Cght (k : Int) gs rs n x y D
section
variable {P : Program} {w : World} {K : PySem.W.Frag} {mg : Str → Option Value} {base : Heap}
abbrev s_law : Stmt := topS 32
abbrev N_law : List Str := ["script", "bag", "turn", "folk", "parts", "more", "at", "number", "fault", "dues", "which", "years", "bears"]
abbrev P_law : List Str := ["script"]
theorem sc_law : FnScope N_law P_law (defScope s_law) := ⟨rfl, rfl, rfl, by decide +kernel, rfl, by decide +kernel, by decide +kernel⟩
def sp_law (K : PySem.W.Frag) : Sp := fun vs H Q _ => ∃ (a : Addr) (ns : List Int), vs = [.ref a] ∧ SqL K H a (ns.map V.int) ∧ ns.length ≤ 63 ∧ ∀ H', Q (.bl true) H'
theorem ok_law (A : At K mg "law" P_law s_law) (B : Bi mg)
    (D__law_bag : Df P w K mg base 1 "_law_bag" P__law_bag s__law_bag (sp__law_bag K)) (D__law_draw : Df P w K mg base 1 "_law_draw" P__law_draw s__law_draw sp__law_draw)
    (D__law_guests : Df P w K mg base 2 "_law_guests" P__law_guests s__law_guests sp__law_guests) (D__law_bent : Df P w K mg base 2 "_law_bent" P__law_bent s__law_bent sp__law_bent)
    (D__law_fault : Df P w K mg base 1 "_law_fault" P__law_fault s__law_fault sp__law_fault) (D__law_room_fault : Df P w K mg base 1 "_law_room_fault" P__law_room_fault s__law_room_fault sp__law_room_fault)
    (D__law_caught : Df P w K mg base 7 "_law_caught" P__law_caught s__law_caught sp__law_caught) : Df P w K mg base 8 "law" P_law s_law (sp_law K) := by
  refine A.df fun f fd F => F.ok sc_law (fun vs H Q E h => ?_) (fun cdv AA outer s H vs Q E hr h => ?_)
  · obtain ⟨a, _, rfl, _⟩ := h
    rfl
  · obtain ⟨a, ns, rfl, hS, hl, q⟩ := h
    have nd := sc_law.nd
    refine ⟨_, (pss_cons (ps_set (i := 1) nd rfl (.inl rfl) (pe_df D__law_bag (hr.mono (by decide)) (by rfl) (pa_cons (pv 0) pa_nil)))
    (pss_cons (ps_for PassesOwn.never rfl (pi_range1 (by rfl) B.range (pa_cons (pe_op op_add pe_int (pe_callB (call_min2 rfl) (by rfl) B.min (by decide +kernel) (pa_cons pe_int (pa_cons (pe_callB call_len_seq (by rfl) B.len PySem.boot_len (pa_cons (pv 0) pa_nil)) pa_nil)))) pa_nil)) (pg_name (i := 2) nd rfl (.inl rfl)) (pss_cons (ps_set (i := 3) nd rfl (.inl rfl) (pe_df D__law_guests (hr.mono (by decide)) (by rfl) (pa_cons (pv 1) (pa_cons pe_int pa_nil)))) (pss_cons (ps_set (i := 4) nd rfl (.inl rfl) (pe_df D__law_bent (hr.mono (by decide)) (by rfl) (pa_cons (pv 1) (pa_cons (pv 3) pa_nil)))) (pss_cons (ps_set (i := 5) nd rfl (.inl rfl) (pe_tup (pa_cons (pe_ix ix_tup (pe_ix ix_list (pe_op op_cat (pv 3) (pe_lst (pa_cons (pe_tup (pa_cons pe_int (pa_cons pe_int pa_nil))) pa_nil))) (pe_df D__law_draw (hr.mono (by decide)) (by rfl) (pa_cons (pv 1) (pa_cons (pe_op op_add (pe_callB call_len_seq (by rfl) B.len PySem.boot_len (pa_cons (pv 3) pa_nil)) pe_int) pa_nil))) (fun _ _ => rfl)) pe_int (fun _ _ => rfl)) (pa_cons (pe_op op_sub (pe_df D__law_draw (hr.mono (by decide)) (by rfl) (pa_cons (pv 1) (pa_cons pe_int pa_nil))) pe_int) pa_nil)))) (pss_cons (ps_if (PW.pt (pw_and (pt_cmpR op_eq (pe_df D__law_draw (hr.mono (by decide)) (by rfl) (pa_cons (pv 1) (pa_cons pe_int pa_nil))) pe_int (nomark _)) (pw_and1 (pt_cmpR op_gt (pe_callB call_len_seq (by rfl) B.len PySem.boot_len (pa_cons (pv 3) pa_nil)) pe_int (nomark _))))) (pss_cons (ps_set (i := 6) nd rfl (.inl rfl) (pe_df D__law_draw (hr.mono (by decide)) (by rfl) (pa_cons (pv 1) (pa_cons (pe_callB call_len_seq (by rfl) B.len PySem.boot_len (pa_cons (pv 3) pa_nil)) pa_nil)))) (pss_one (ps_asg (pe_tup (pa_cons (pe_ix ix_tup (pe_ix ix_list (pv 3) (pv 6) (fun _ _ => rfl)) pe_int (fun _ _ => rfl)) (pa_cons (pe_op op_sub (pe_un un_neg pe_int) (pe_ix ix_tup (pe_tup (pa_cons pe_int (pa_cons (pe_op op_pow pe_int pe_int) pa_nil))) (pe_df D__law_draw (hr.mono (by decide)) (by rfl) (pa_cons (pv 1) (pa_cons pe_int pa_nil))) (fun _ _ => rfl))) pa_nil))) (pg_sub (pv 3) (pv 6) set_list)))) pss_nil) (pss_cons (ps_if (PW.pt (pw_and (pt_cmpR op_eq (pe_df D__law_draw (hr.mono (by decide)) (by rfl) (pa_cons (pv 1) (pa_cons pe_int pa_nil))) pe_int (nomark _)) (pw_and1 (pt_cmpR op_gt (pe_callB call_len_seq (by rfl) B.len PySem.boot_len (pa_cons (pv 3) pa_nil)) pe_int (nomark _))))) (pss_one (ps_expr (pe_bm PySem.F.plainAttrs_list PySem.F.slot_list_insert PySem.F.type_list_insert mt_insert (pv 3) (pa_cons (pe_df D__law_draw (hr.mono (by decide)) (by rfl) (pa_cons (pv 1) (pa_cons (pe_op op_add (pe_callB call_len_seq (by rfl) B.len PySem.boot_len (pa_cons (pv 3) pa_nil)) pe_int) pa_nil))) (pa_cons (pe_tup (pa_cons (pe_ix ix_tup (pe_ix ix_list (pv 3) (pe_df D__law_draw (hr.mono (by decide)) (by rfl) (pa_cons (pv 1) (pa_cons (pe_callB call_len_seq (by rfl) B.len PySem.boot_len (pa_cons (pv 3) pa_nil)) pa_nil))) (fun _ _ => rfl)) pe_int (fun _ _ => rfl)) (pa_cons pe_int pa_nil))) pa_nil))))) pss_nil) (pss_cons (ps_set (i := 7) nd rfl (.inl rfl) (pe_ix ix_tup (pe_tup (pa_cons (pe_df D__law_draw (hr.mono (by decide)) (by rfl) (pa_cons (pv 1) (pa_cons pe_int pa_nil))) (pa_cons (pe_un un_neg pe_int) (pa_cons (pe_op op_sub pe_int (pe_op op_pow pe_int pe_int)) pa_nil)))) (pe_df D__law_draw (hr.mono (by decide)) (by rfl) (pa_cons (pv 1) (pa_cons pe_int pa_nil))) (fun _ _ => rfl))) (pss_cons (ps_set (i := 8) nd rfl (.inl rfl) (pe_df D__law_fault (hr.mono (by decide)) (by rfl) (pa_cons (pv 3) pa_nil))) (pss_cons (ps_set (i := 9) nd rfl (.inl rfl) (pe_lst (pa_cons (pv 8) (pa_cons (pv 8) (pa_cons (pv 8) (pa_cons (pv 8) pa_nil)))))) (pss_cons (ps_if (pt_cmpR op_isN (pv 8) pe_non (nomark _)) (pss_cons (ps_asg (pe_df D__law_room_fault (hr.mono (by decide)) (by rfl) (pa_cons (pv 3) (pa_cons (pv 4) pa_nil))) (pg_sub (pv 9) pe_int set_list)) (pss_cons (ps_if (pt_cmpR op_lt (pv 7) pe_int (nomark _)) (pss_one (ps_asg (pe_tup (pa_cons pe_str (pa_cons (pv 7) pa_nil))) (pg_sub (pv 9) pe_int set_list))) pss_nil) (pss_one (ps_if (PW.pt (pw_or (pt_cmpR op_lt (pe_ix ix_tup (pv 5) pe_int (fun _ _ => rfl)) pe_int (nomark _)) (pw_or1 (pt_cmpR op_in_seq (pe_ix ix_tup (pv 5) pe_int (fun _ _ => rfl)) (pe_lc (own := [("years", 11), ("bears", 12)]) (tt := tYes) rfl nd (pi_list (pv 3)) (blkOk_by (N := N_law) (sc := defScope s_law) (by decide +kernel)) (fun _ _ _ _ _ => (pgTupK K 2 (by rfl) (pgs_cons (pg_name (i := 11) nd rfl (.inl rfl)) (pgs_cons (pg_name (i := 12) nd rfl (.inl rfl)) pgs_nil)))) (fun _ _ _ _ _ => pts_nil) (fun _ _ _ _ _ => (pv 11))) (by rfl))))) (pss_one (ps_asg (pe_tup (pa_cons pe_str (pa_cons (pv 5) pa_nil))) (pg_sub (pv 9) pe_int set_list))) pss_nil)))) pss_nil) (pss_one (ps_for PassesOwn.never rfl (pi_range1 (by rfl) B.range (pa_cons pe_int pa_nil)) (pg_name (i := 10) nd rfl (.inl rfl)) (pss_one (ps_if (pt_cmpR (op_neD hr.units) (pe_df D__law_caught (hr.mono (by decide)) (by rfl) (pa_cons (pv 10) (pa_cons (pv 3) (pa_cons (pv 7) (pa_cons (pv 4) (pa_cons (pv 5) pa_nil)))))) (pe_ix ix_list (pv 9) (pv 10) (fun _ _ => rfl)) (nomark _)) (pss_one (ps_ret pe_bl)) pss_nil))))))))))))))
    (pss_one (ps_ret pe_bl)))), ?_⟩
    refine ⟨.ref a, rfl, a, ns, rfl, hS, hl, fun H1 b g s1 nb ng hT => ?_⟩
    refine ⟨.ref a, rfl, a, _, rfl, .inl (s1.seq hS), _, _, rfl, _, _, rfl, rfl, _, rfl, ?_, ?_, ?_⟩
    · split <;> omega
    · split <;> omega
    have hlaps : ((2 : Int) + (if ((ns.map V.int).length : Int) < 4 then ((ns.map V.int).length : Int) else 4)).toNat ≤ 6 := by
      split <;> omega
    refine for_it walk_range (fun i σ H2 => ∃ y2 y3 y4 y5 y6 y7 y8 y9 y10 y11 y12, σ = [some (.ref a), some (.ref b), y2, y3, y4, y5, y6, y7, y8, y9, y10, y11, y12] ∧ Bag H2 b g (100000 * i)) ⟨_, _, _, _, _, _, _, _, _, _, _, rfl, hT⟩ (fun _ _ _ _ _ => trivial) (fun i x σ H2 H3 hi hW hY => ?_) (fun σ H2 hW => q _)
    obtain ⟨y2, y3, y4, y5, y6, y7, y8, y9, y10, y11, y12, rfl, T2⟩ := hW
    obtain ⟨rfl, rfl⟩ := hY
    have hi11 : i ≤ 10 := by omega
    -- folk
    refine ⟨.ref b, rfl, b, g, _, 12, rfl, T2, by decide, by omega, fun H4 o ts gs k4 T4 G4 no4 F4 len4 big4 => ?_⟩
    have G4 : GsAt H4 (Off b g) o ts gs := G4.weaken fun z hz => T2.off hz
    have oo : Off b g o := G4.ba
    -- parts
    refine ⟨.ref b, rfl, .ref o, rfl, b, g, o, _, ts, gs, rfl, T4, by omega, G4, F4, by omega, fun H5 l us rs k5 T5 R5 lrs => ?_⟩
    have G5 := G4.keep k5
    have R5 : RmsAt H5 (fun z => Off b g z ∧ z ≠ o) l us rs := R5.weaken fun z hz => ⟨T4.off hz, fun e => by rw [e, G4.top] at hz; cases hz⟩
    -- more
    refine ⟨.ref o, rfl, (by show 2 ≤ sizeLine; decide), fun u nu => ⟨(by show 1 ≤ sizeLine; decide), fun l1 nl1 => ?_⟩⟩
    have su := same_new (o := .tup [.int 7, .int 1]) nu
    have sl := same_new (o := .lst [.ref u]) nl1
    have s57 := su.trans sl
    refine ⟨o, l1, _, _, rfl, rfl, (G5.same s57).top, upd_same, ile (by rw [List.length_map, G5.len]; show gs.length + 1 ≤ 100000; omega), fun c nc => ?_⟩
    have sc := same_new (o := .lst (ts.map V.ref ++ [.ref u])) nc
    have s58 := s57.trans sc
    have eu := sc _ _ (sl _ _ (upd_same (H := H5) (a := u) (o := .tup [.int 7, .int 1])))
    have ec : upd (upd (upd H5 u (.tup [.int 7, .int 1])) l1 (.lst [.ref u])) c (.lst (ts.map V.ref ++ [.ref u])) c = some (.lst (ts.map V.ref ++ [.ref u])) := upd_same
    have oc : Off b g c := (T5.keep s57).off nc
    have ou : Off b g u := T5.off nu
    revert s58 eu ec
    clear sc sl su s57
    generalize upd (upd (upd H5 u (.tup [.int 7, .int 1])) l1 (.lst [.ref u])) c (.lst (ts.map V.ref ++ [.ref u])) = H8
    intro s58 eu ec
    have T8 := T5.keep s58
    have G8 := G5.same s58
    have R8 := R5.same s58
    refine ⟨.ref b, rfl, .ref o, rfl, o, _, rfl, .inl G8.seq, _, _, rfl, rfl, b, g, _, _, rfl, T8, by omega, ?_, ?_, fun H9 r9 k9 T9 a9 b9 => ?_⟩
    · rw [List.length_map, G8.len]
      omega
    · rw [List.length_map, G8.len]
      exact Int.lt_of_le_of_lt (show (gs.length : Int) + 1 ≤ 13 by omega) (by decide)
    rw [List.length_map, G8.len] at b9
    obtain ⟨j9, rfl⟩ : ∃ j : Nat, r9 = j := ⟨r9.toNat, by omega⟩
    have G9 := G8.keep k9
    obtain ⟨tt, x, x2, hv9, htt, hxb⟩ : ∃ (tt : Addr) (x x2 : Int), (ts.map V.ref ++ [V.ref u])[j9]? = some (.ref tt) ∧ H9 tt = some (.tup [.int x, .int x2]) ∧ x.natAbs < 10 ^ 200 := by
      by_cases hj : j9 < gs.length
      · obtain ⟨z, ez⟩ := at_some hj
        obtain ⟨t, e1, e2⟩ := G9.at_ ez
        exact ⟨t, z.1, z.2, by rw [List.getElem?_append_left (by rw [List.length_map, G9.len]; exact hj)]; exact e1, e2, big4 z (List.mem_of_getElem? ez)⟩
      · have : j9 = (ts.map V.ref).length := by rw [List.length_map, G9.len]; omega
        exact ⟨u, 7, 1, by rw [this, List.getElem?_append_right (Nat.le_refl _), Nat.sub_self]; rfl, k9 _ _ ou eu, by decide +kernel⟩
    refine ⟨c, _, _, .ref tt, rfl, rfl, SqL.of (k9 _ _ oc ec), atI_nat (j := j9) hv9, tt, _, _, .int x, rfl, rfl, SqT.of htt, atI_nat (j := 0) rfl, ?_⟩
    refine ⟨.ref b, rfl, b, g, _, 9, rfl, T9, by omega, by decide, by decide, fun H10 r10 k10 T10 a10 b10 => ⟨_, _, rfl, rfl, (by show 2 ≤ sizeLine; decide), fun m nm => ?_⟩⟩
    have sm := same_new (o := .tup [.int x, .int (r10 - 3)]) nm
    have hyb : (r10 - 3).natAbs < 10 ^ 200 := Nat.lt_of_lt_of_le (show (r10 - 3).natAbs < 10 by omega) (by decide +kernel)
    have S0 : Stand b g o l m us rs x (r10 - 3) (100000 * i + 600) 12 ts gs (upd H10 m (.tup [.int x, .int (r10 - 3)])) := ⟨(T10.keep sm).more (by omega), (G9.keep k10).same sm, no4, len4, big4, (((R8.keep (k9.weak fun _ z => z.1)).keep (k10.weak fun _ z => z.1))).same sm, upd_same, T10.off nm⟩
    clear T10 T9 T8 G8 R8 G9 R5 G5 eu ec s58 k9 k10 oc ou b9 hv9 htt a9 sm nm nc nl1 nu
    clear b10 a10
    dsimp only
    revert S0 hyb
    generalize r10 - 3 = y
    generalize upd H10 m (.tup [.int x, .int y]) = H11
    intro hyb S0
    dsimp only [gName]
    -- one of no patience
    refine seq_to (fun σ H2 => ∃ y6 ts gs, σ = [some (.ref a), some (.ref b), some (.int (0 + (i : Int))), some (.ref o), some (.ref l), some (.ref m), y6, y7, y8, y9, y10, y11, y12] ∧ Stand b g o l m us rs x y (100000 * i + 610) 12 ts gs H2) (fun X hX => ?_) (fun σ H12 hE => ?_)
    · refine ⟨.ref b, rfl, b, g, _, 3, rfl, S0.T, by omega, by decide, by decide, fun H12 r12 k12 T12 a12 b12 => ?_⟩
      have S1 := S0.draw k12 T12
      refine ⟨rfl, _, rfl, ite2 (fun _ => ?_) (fun _ => hX _ _ ⟨_, _, _, rfl, S1.more (by omega) (by decide)⟩)⟩
      refine ⟨.ref o, rfl, o, _, rfl, .inl S1.G.seq, _, _, rfl, rfl, _, rfl, ite2 (fun e1 => ?_) (fun _ => hX _ _ ⟨_, _, _, rfl, S1.more (by omega) (by decide)⟩)⟩
      have hpos : 0 < gs.length := by
        have := of_decide_eq_true e1
        rw [List.length_map, S1.G.len] at this
        omega
      refine ⟨.ref b, rfl, .ref o, rfl, o, _, rfl, .inl S1.G.seq, b, g, _, _, rfl, S1.T, by omega, ?_, ?_, fun H13 r13 k13 T13 a13 b13 => ?_⟩
      · rw [List.length_map, S1.G.len]
        omega
      · rw [List.length_map, S1.G.len]
        exact Int.lt_of_le_of_lt (show (gs.length : Int) ≤ 12 by omega) (by decide)
      rw [List.length_map, S1.G.len] at b13
      obtain ⟨j, rfl⟩ : ∃ j : Nat, r13 = j := ⟨r13.toNat, by omega⟩
      have S2 := S1.draw k13 T13
      obtain ⟨z, ez⟩ := at_some (l := gs) (i := j) (by omega)
      obtain ⟨t, et, ht⟩ := S2.G.at_ ez
      dsimp only [gName]
      refine ⟨.ref o, rfl, .int (j : Int), rfl, o, _, _, .ref t, rfl, rfl, S2.G.seq, atI_nat (j := j) et, t, _, _, .int z.1, rfl, rfl, SqT.of ht, atI_nat (j := 0) rfl, ?_⟩
      refine ⟨_, rfl, _, _, rfl, rfl, ⟨by decide, by decide, by decide⟩, (by show 2 ≤ sizeLine; decide), fun u nu => ?_⟩
      have S3 := S2.same (same_new (o := .tup [.int 0, .int (10 ^ Int.toNat 28)]) nu)
      have ou : Off b g u := T13.off nu
      refine ⟨.ref b, rfl, b, g, _, 2, rfl, S3.T, by omega, by decide, by decide, fun H14 r14 k14 T14 a14 b14 => ?_⟩
      have S4 := S3.draw k14 T14
      obtain ⟨v, hv, mv⟩ := at_pick (xs := [V.int 0, .int (10 ^ Int.toNat 28)]) a14 b14
      obtain ⟨e, rfl⟩ : ∃ e : Int, v = .int e := by
        rcases List.mem_cons.mp mv with rfl | mv
        · exact ⟨_, rfl⟩
        · exact ⟨_, List.mem_singleton.mp mv⟩
      refine ⟨u, _, _, _, rfl, rfl, SqT.of (k14 _ _ ou upd_same), hv, _, _, rfl, rfl, (by show 2 ≤ sizeLine; decide), fun p np => ?_⟩
      have S5 := S4.same (same_new (o := .tup [.int z.1, .int (-1 - e)]) np)
      refine ⟨.ref o, rfl, .int (j : Int), rfl, o, _, _, j, rfl, rfl, S5.G.top, ixN_of (by rw [List.length_map, S5.G.len]; omega), hX _ _ ?_⟩
      obtain ⟨GL, nL⟩ := S5.G.lay S5.no (k := j) (q := p) (g := (z.1, -1 - e)) upd_same (S4.T.off np)
      refine ⟨_, _, _, rfl, (S5.mut GL nL (by rw [List.length_set]; exact S5.len) fun w hw => ?_).more (by omega) (by decide)⟩
      rcases List.mem_or_eq_of_mem_set hw with hw | rfl
      · exact S5.big w hw
      · exact S5.big z (List.mem_of_getElem? ez)
    clear S0 F4 len4 big4 no4 G4
    obtain ⟨y6, ts, gs, rfl, S1⟩ := hE
    have len1 := S1.len
    -- one age twice
    refine seq_to (fun σ H2 => ∃ y6 ts gs, σ = [some (.ref a), some (.ref b), some (.int (0 + (i : Int))), some (.ref o), some (.ref l), some (.ref m), y6, y7, y8, y9, y10, y11, y12] ∧ Stand b g o l m us rs x y (100000 * i + 620) 13 ts gs H2) (fun X hX => ?_) (fun σ H13 hE => ?_)
    · refine ⟨.ref b, rfl, b, g, _, 3, rfl, S1.T, by omega, by decide, by decide, fun H13 r13 k13 T13 a13 b13 => ?_⟩
      have S2 := S1.draw k13 T13
      refine ⟨rfl, _, rfl, ite2 (fun _ => ?_) (fun _ => hX _ _ ⟨_, _, _, rfl, S2.more (by omega) (by decide)⟩)⟩
      refine ⟨.ref o, rfl, o, _, rfl, .inl S2.G.seq, _, _, rfl, rfl, _, rfl, ite2 (fun e1 => ?_) (fun _ => hX _ _ ⟨_, _, _, rfl, S2.more (by omega) (by decide)⟩)⟩
      have hpos : 0 < gs.length := by
        have := of_decide_eq_true e1
        rw [List.length_map, S2.G.len] at this
        omega
      refine ⟨.ref o, rfl, .inl ⟨rfl, _, S2.G.seq⟩, .ref b, rfl, .ref o, rfl, o, _, rfl, .inl S2.G.seq, _, _, rfl, rfl, b, g, _, _, rfl, S2.T, by omega, ?_, ?_, fun H14 r14 k14 T14 a14 b14 => ?_⟩
      · rw [List.length_map, S2.G.len]
        omega
      · rw [List.length_map, S2.G.len]
        exact Int.lt_of_le_of_lt (show (gs.length : Int) + 1 ≤ 13 by omega) (by decide)
      rw [List.length_map, S2.G.len] at b14
      have S3 := S2.draw k14 T14
      refine ⟨.ref o, rfl, .ref b, rfl, .ref o, rfl, o, _, rfl, .inl S3.G.seq, b, g, _, _, rfl, S3.T, by omega, ?_, ?_, fun H15 r15 k15 T15 a15 b15 => ?_⟩
      · rw [List.length_map, S3.G.len]
        omega
      · rw [List.length_map, S3.G.len]
        exact Int.lt_of_le_of_lt (show (gs.length : Int) ≤ 12 by omega) (by decide)
      rw [List.length_map, S3.G.len] at b15
      obtain ⟨j, rfl⟩ : ∃ j : Nat, r15 = j := ⟨r15.toNat, by omega⟩
      have S4 := S3.draw k15 T15
      obtain ⟨z, ez⟩ := at_some (l := gs) (i := j) (by omega)
      obtain ⟨t, et, ht⟩ := S4.G.at_ ez
      refine ⟨o, _, _, .ref t, rfl, rfl, S4.G.seq, atI_nat (j := j) et, t, _, _, .int z.1, rfl, rfl, SqT.of ht, atI_nat (j := 0) rfl, (by show 2 ≤ sizeLine; decide), fun p np => ?_⟩
      have S5 := S4.same (same_new (o := .tup [.int z.1, .int 3]) np)
      refine ⟨o, _, r14, .ref p, rfl, rfl, S5.G.top, ils (by rw [List.length_map, S5.G.len]; omega), a14, by omega, ?_⟩
      have pm : ((ts.map V.ref).take r14.toNat ++ [V.ref p] ++ (ts.map V.ref).drop r14.toNat).Perm (ts.map V.ref ++ [.ref p]) := by
        have e : ts.map V.ref ++ [V.ref p] = (ts.map V.ref).take r14.toNat ++ ((ts.map V.ref).drop r14.toNat ++ [V.ref p]) := by
          rw [← List.append_assoc, List.take_append_drop]
        rw [e, List.append_assoc]
        exact List.Perm.append_left _ List.perm_append_comm
      obtain ⟨ts', gs', GI, pg, nI, _⟩ := S5.G.ins S5.no (q := p) (g := (z.1, 3)) upd_same (S4.T.off np) pm
      refine hX _ _ ⟨_, ts', gs', rfl, (S5.mut GI nI (by rw [pg.length_eq, List.length_append]; show gs.length + 1 ≤ 13; omega) fun w hw => ?_).more (by omega) (by decide)⟩
      rcases List.mem_append.mp (pg.mem_iff.mp hw) with hw | hw
      · exact S5.big w hw
      · rw [List.mem_singleton.mp hw]
        exact S5.big z (List.mem_of_getElem? ez)
    clear S1 len1
    obtain ⟨y6, ts, gs, rfl, S2⟩ := hE
    have len2 := S2.len
    -- number
    refine ⟨.ref b, rfl, b, g, _, 9, rfl, S2.T, by omega, by decide, by decide, fun H14 r14 k14 T14 a14 b14 => ?_⟩
    have S3 := S2.draw k14 T14
    refine ⟨_, rfl, _, _, rfl, rfl, ⟨by decide, by decide, by decide⟩, _, _, rfl, rfl, (by show 3 ≤ sizeLine; decide), fun u nu => ?_⟩
    have ou : Off b g u := T14.off nu
    have S4 := S3.same (same_new (o := .tup [.int r14, .int (-1), .int (0 - 10 ^ Int.toNat 38)]) nu)
    refine ⟨.ref b, rfl, b, g, _, 3, rfl, S4.T, by omega, by decide, by decide, fun H15 r15 k15 T15 a15 b15 => ?_⟩
    have S5 := S4.draw k15 T15
    obtain ⟨num, hv, hn200⟩ := pick3 (P := fun x => x.natAbs < 10 ^ 200) (a := r14) (b := -1) (c := 0 - 10 ^ Int.toNat 38) a15 b15 (Nat.lt_of_lt_of_le (show r14.natAbs < 9 by omega) (by decide +kernel)) (by decide +kernel) (by decide +kernel)
    refine ⟨u, _, _, _, rfl, rfl, SqT.of (k15 _ _ ou upd_same), hv, ?_⟩
    dsimp only [gName]
    -- fault
    refine ⟨.ref o, rfl, _, o, ts, gs, rfl, S5.G, by omega, fun H16 v D s16 dv hF => ?_⟩
    have S6 := S5.same s16
    clear S5 S4 S3 S2 hv
    dsimp only [gName]
    refine ⟨v, rfl, v, rfl, v, rfl, v, rfl, (by show 4 ≤ sizeLine; decide), fun d nd => ?_⟩
    have sd := same_new (o := .lst [v, v, v, v]) nd
    have S7 := S6.same sd
    have ed : upd H16 d (.lst [v, v, v, v]) d = some (.lst [v, v, v, v]) := upd_same
    have dv7 := dv.same sd
    dsimp only [gName]
    refine seq_to (fun σ H2 => ∃ ds, σ = [some (.ref a), some (.ref b), some (.int (0 + (i : Int))), some (.ref o), some (.ref l), some (.ref m), y6, some (.int num), some v, some (.ref d), y10, y11, y12] ∧ Same H16 H2 ∧ H2 d = some (.lst ds) ∧ ds.length = 4 ∧ Dues gs rs num x y ds H2) (fun X hX => ?_) (fun σ H18 hE => ?_)
    · rcases hF with ⟨k, hb, rfl⟩ | ⟨hFit, rfl⟩
      · obtain ⟨t, u, rfl, et, hu⟩ := id dv7
        refine ⟨_, rfl, rfl, _, rfl, iteX (by rfl) (hX _ _ ⟨_, rfl, sd, ed, rfl, fun k' hk' => ⟨.ref t, _, ?_, dv7, .inl ⟨k, hb, rfl⟩⟩⟩)⟩
        match k', hk' with
        | 0, _ => rfl
        | 1, _ => rfl
        | 2, _ => rfl
        | 3, _ => rfl
      · obtain rfl : v = .non := dv7
        refine ⟨_, rfl, rfl, _, rfl, iteT ?_⟩
        -- dues[1]
        refine ⟨.ref o, rfl, .ref l, rfl, _, o, l, ts, us, gs, rs, rfl, S7.G, by omega, S7.R.rd, by omega, fun H17 v1 D1 s17 dv1 hR1 => ?_⟩
        have S8 := S7.same s17
        have ed17 := s17 _ _ ed
        refine ⟨.ref d, rfl, d, _, _, 1, rfl, rfl, ed17, ixN_of (by decide), ?_⟩
        have dv1' : DvAt (upd H17 d (.lst ([V.non, .non, .non, .non].set 1 v1))) v1 D1 := DvAt.mutL ed17 dv1
        have s18 : Same H16 (upd H17 d (.lst ([V.non, .non, .non, .non].set 1 v1))) := Same.mut (sd.trans s17) nd
        have ed18 : upd H17 d (.lst ([V.non, .non, .non, .non].set 1 v1)) d = some (.lst [.non, v1, .non, .non]) := upd_same
        dsimp only
        revert dv1' s18 ed18
        generalize upd H17 d (.lst ([V.non, .non, .non, .non].set 1 v1)) = H18
        intro dv1' s18 ed18
        -- dues[0]
        refine seq_to (fun σ H2 => ∃ v0 D0, σ = [some (.ref a), some (.ref b), some (.int (0 + (i : Int))), some (.ref o), some (.ref l), some (.ref m), y6, some (.int num), some .non, some (.ref d), y10, y11, y12] ∧ Same H16 H2 ∧ H2 d = some (.lst [v0, v1, .non, .non]) ∧ DvAt H2 v0 D0 ∧ DvAt H2 v1 D1 ∧ ((num < 0 ∧ D0 = some (("rooms" : Str), .num num)) ∨ (0 ≤ num ∧ D0 = none))) (fun X hX => ?_) (fun σ H19 hE => ?_)
        · refine ⟨_, rfl, _, _, rfl, rfl, _, rfl, ite2 (fun e => ?_) (fun e => hX _ _ ⟨.non, none, rfl, s18, ed18, rfl, dv1', .inr ⟨Int.not_lt.mp fun z => e (decide_eq_true z), rfl⟩⟩)⟩
          have hneg : num < 0 := of_decide_eq_true e
          refine ⟨.int num, rfl, (by show 2 ≤ sizeLine; decide), fun p np => ?_⟩
          have sp := same_new (o := .tup [.str "rooms", .int num]) np
          have ed19 := sp _ _ ed18
          refine ⟨.ref d, rfl, d, _, _, 0, rfl, rfl, ed19, ixN_of (show 0 < 4 by decide), hX _ _ ⟨.ref p, some (("rooms" : Str), .num num), rfl, Same.mut (s18.trans sp) nd, upd_same, DvAt.mutL (ys := [.ref p, v1, .non, .non]) ed19 (D := some (("rooms" : Str), .num num)) ⟨p, _, rfl, upd_same, rfl⟩, DvAt.mutL ed19 (dv1'.same sp), .inl ⟨hneg, rfl⟩⟩⟩
        · obtain ⟨v0, D0, rfl, s19, ed19, dv0, dv1'', h0⟩ := hE
          have S9 := S6.same s19
          have done : ∀ (v3 : V) (D3 : Option (Str × Dv)) (H20 : Hp), Same H16 H20 → H20 d = some (.lst [v0, v1, .non, v3]) → DvAt H20 v0 D0 → DvAt H20 v1 D1 → DvAt H20 v3 D3 → (((y < 0 ∨ x ∈ gs.map (·.1)) ∧ D3 = some (("guest" : Str), .two x y)) ∨ (0 ≤ y ∧ x ∉ gs.map (·.1) ∧ D3 = none)) → X [some (.ref a), some (.ref b), some (.int (0 + (i : Int))), some (.ref o), some (.ref l), some (.ref m), y6, some (.int num), some .non, some (.ref d), y10, y11, y12] H20 := fun v3 D3 H20 s20 e20 c0 c1 c3 h3 => hX _ _ ⟨_, rfl, s20, e20, rfl, fun k hk => by
            match k, hk with
            | 0, _ => exact ⟨v0, D0, rfl, c0, .inr ⟨hFit, .inl ⟨rfl, h0⟩⟩⟩
            | 1, _ => exact ⟨v1, D1, rfl, c1, .inr ⟨hFit, .inr (.inl ⟨rfl, hR1⟩)⟩⟩
            | 2, _ => exact ⟨.non, none, rfl, rfl, .inr ⟨hFit, .inr (.inr (.inl ⟨rfl, rfl⟩))⟩⟩
            | 3, _ => exact ⟨v3, D3, rfl, c3, .inr ⟨hFit, .inr (.inr (.inr ⟨rfl, h3⟩))⟩⟩⟩
          have put : ∀ (H20 : Hp), Same H19 H20 → (y < 0 ∨ x ∈ gs.map (·.1)) → ∀ p, H20 p = none → X [some (.ref a), some (.ref b), some (.int (0 + (i : Int))), some (.ref o), some (.ref l), some (.ref m), y6, some (.int num), some .non, some (.ref d), y10, y11, y12] (upd (upd H20 p (.tup [.str "guest", .ref m])) d (.lst [v0, v1, .non, .ref p])) := fun H20 s20 hb p np => by
            have sp := same_new (o := .tup [.str "guest", .ref m]) np
            have ed20 := sp _ _ (s20 _ _ ed19)
            exact done (.ref p) (some (("guest" : Str), .two x y)) _ (Same.mut (s19.trans (s20.trans sp)) nd) upd_same (DvAt.mutL ed20 (dv0.same (s20.trans sp))) (DvAt.mutL ed20 (dv1''.same (s20.trans sp))) (DvAt.mutL ed20 (D := some (("guest" : Str), .two x y)) ⟨p, _, rfl, upd_same, m, rfl, sp _ _ (s20 _ _ S9.M)⟩) (.inl ⟨hb, rfl⟩)
          have ixD : ∀ (H20 : Hp), Same H19 H20 → ∀ p, H20 p = none → upd H20 p (.tup [.str "guest", .ref m]) d = some (.lst [v0, v1, .non, .non]) := fun H20 s20 p np => same_new np _ _ (s20 _ _ ed19)
          refine ⟨.ref m, rfl, m, _, _, .int y, rfl, rfl, SqT.of S9.M, atI_nat (j := 1) rfl, _, _, rfl, rfl, _, rfl, ite2 (fun e => ?_) (fun e => ?_)⟩
          · refine ⟨.ref m, rfl, (by show 2 ≤ sizeLine; decide), fun p np => ⟨.ref d, rfl, d, _, _, 3, rfl, rfl, ixD _ (Same.refl _) p np, ixN_of (show 3 < 4 by decide), ?_⟩⟩
            exact put H19 (Same.refl _) (.inl (of_decide_eq_true e)) p np
          · have hy0 : 0 ≤ y := Int.not_lt.mp fun z => e (decide_eq_true z)
            refine ⟨.ref m, rfl, m, _, _, .int x, rfl, rfl, SqT.of S9.M, atI_nat (j := 0) rfl, .ref o, rfl, o, rfl, ⟨_, S9.G.seq⟩, fun D nD => ?_⟩
            refine lc_it (walk_list (xs := ts.map V.ref)) (fun i H2 => Same H19 H2 ∧ H2 D = some (.lst (((gs.take i).map (·.1)).map V.int))) ⟨same_new nD, upd_same⟩ (fun i H2 _ hW => (S9.G.same hW.1).seq) (fun i x H2 H3 hi hW hY => ?_) (fun H20 hW => ?_)
            · obtain ⟨s5, e5⟩ := hW
              obtain ⟨rfl, hx⟩ := hY
              obtain ⟨u, z, rfl, ez, eu⟩ := (S9.G.same s5).get hx
              refine ⟨u, _, rfl, SqT.of eu, rfl, .int z.1, _, rfl, .int z.2, _, rfl, rfl, rfl, .int z.1, rfl, _, e5, ils (by rw [List.length_map, List.length_map, List.length_take]; omega), Same.mut s5 nD, ?_⟩
              rw [upd_same, take_snoc ez, List.map_append, List.map_append]
              rfl
            · obtain ⟨s20, e20⟩ := hW
              rw [List.length_map, S9.G.len, take_full] at e20
              refine ⟨D, _, rfl, .inl (SqL.of e20), rfl, flat_ints _, _, rfl, ?_⟩
              show if inV (.int x) ((gs.map (·.1)).map V.int) = true then _ else _
              rw [inV_ints]
              by_cases hin : x ∈ gs.map (·.1)
              · rw [decide_eq_true hin]
                refine iteT ⟨.ref m, rfl, (by show 2 ≤ sizeLine; decide), fun p np => ⟨.ref d, rfl, d, _, _, 3, rfl, rfl, ixD _ s20 p np, ixN_of (show 3 < 4 by decide), ?_⟩⟩
                exact put H20 s20 (.inr hin) p np
              · rw [decide_eq_false hin]
                exact iteF (done .non none H20 (s19.trans s20) (s20 _ _ ed19) (dv0.same s20) (dv1''.same s20) rfl (.inr ⟨hy0, hin, rfl⟩))
    clear dv7 S7 ed sd
    obtain ⟨ds, rfl, s18, ed18, ld, hDu⟩ := hE
    have S8 := S6.same s18
    refine ⟨_, rfl, by decide, by decide, ?_⟩
    refine for_it walk_range (fun k σ H2 => ∃ y10, σ = [some (.ref a), some (.ref b), some (.int (0 + (i : Int))), some (.ref o), some (.ref l), some (.ref m), y6, some (.int num), some v, some (.ref d), y10, y11, y12] ∧ Same H18 H2) ⟨_, rfl, Same.refl _⟩ (fun _ _ _ _ _ => trivial) (fun k z σ H19 H20 hk hW hY => ?_) (fun σ H19 hW => ?_)
    · obtain ⟨y10, rfl, s19⟩ := hW
      obtain ⟨rfl, hz⟩ := hY
      obtain rfl := rg0 hz
      have hk4 : k < 4 := hk
      obtain ⟨vk, Dk, ek, dk, ck⟩ := hDu k hk4
      have S9 := S8.same s19
      refine ⟨.int (k : Int), rfl, .ref o, rfl, .int num, rfl, .ref l, rfl, .ref m, rfl, _, o, l, m, (k : Int), num, x, y, ts, us, gs, rs, Dk, rfl, by omega, by omega, S9.G, S9.R.rd, S9.M, by omega, by omega, hn200, hxb, hyb, ck, fun H21 w s21 dw => ?_⟩
      refine ⟨.ref d, rfl, .int (k : Int), rfl, d, _, _, vk, rfl, rfl, SqL.of ((s19.trans s21) _ _ ed18), atI_nat (j := k) ek, ?_⟩
      have ok := Oks.dv (cght_word ck)
      refine ⟨dDv Dk, dDv Dk, dw.dp, (dk.same (s19.trans s21)).dp, ok.shaped, ok.shaped, _, rfl, iteX (by rw [ok.eqv]; rfl) ⟨_, rfl, s19.trans s21⟩⟩
    · obtain ⟨y10, rfl, s19⟩ := hW
      exact ⟨_, _, _, _, _, _, _, _, _, _, _, rfl, (S8.same s19).T.more (by omega)⟩
end
end El
namespace El
open PySem PySem.Spec PyProof.Rows L2
theorem all_mk {l : PySem.W.OpenLaw} {w : World} {K : PySem.W.Frag} {h : Heap} {mg : Str → Option Value} {fa f1 f2 f3 f4 f5 f6 f7 f8 f9 f10 f11 f12 f13 f14 f15 f16 f17 f18 f19 f20 f21 f22 : Addr} (X : K.In h) (G : h.Ns mainGlobals mg) (hfa : mg "law" = some (.ref fa))
    {od1 an1 od2 an2 od3 an3 od4 an4 od5 an5 od6 an6 od7 an7 od8 an8 od9 an9 od10 an10 od11 an11 od12 an12 od13 an13 od14 an14 od15 an15 od16 an16 od17 an17 od18 an18 od19 an19 od20 an20 od21 an21 od22 an22 : Option Addr} {sl1 sl2 sl3 sl4 sl5 sl6 sl7 sl8 sl9 sl10 sl11 sl12 sl13 sl14 sl15 sl16 sl17 sl18 sl19 sl20 sl21 sl22 : Array (Option Value)} {oc1 kV1 dc1 pm1 cd1 ct1 oc2 kV2 dc2 pm2 cd2 ct2 oc3 kV3 dc3 pm3 cd3 ct3 oc4 kV4 dc4 pm4 cd4 ct4 oc5 kV5 dc5 pm5 cd5 ct5 oc6 kV6 dc6 pm6 cd6 ct6 oc7 kV7 dc7 pm7 cd7 ct7 oc8 kV8 dc8 pm8 cd8 ct8 oc9 kV9 dc9 pm9 cd9 ct9 oc10 kV10 dc10 pm10 cd10 ct10 oc11 kV11 dc11 pm11 cd11 ct11 oc12 kV12 dc12 pm12 cd12 ct12 oc13 kV13 dc13 pm13 cd13 ct13 oc14 kV14 dc14 pm14 cd14 ct14 oc15 kV15 dc15 pm15 cd15 ct15 oc16 kV16 dc16 pm16 cd16 ct16 oc17 kV17 dc17 pm17 cd17 ct17 oc18 kV18 dc18 pm18 cd18 ct18 oc19 kV19 dc19 pm19 cd19 ct19 oc20 kV20 dc20 pm20 cd20 ct20 oc21 kV21 dc21 pm21 cd21 ct21 oc22 kV22 dc22 pm22 cd22 ct22 : Value}
    (a1 : PySem.W.nsIn K mainGlobals "patience_by_age" = some (some (.ref f1))) (l1 : K.lookup f1 = some ⟨oc1, od1, .func (PySem.W.fnOf "patience_by_age" "patience_by_age" (defArgs s_patience_by_age) (defBody s_patience_by_age) (defScope s_patience_by_age) .none kV1 dc1 pm1 an1 cd1 ct1), sl1⟩) (c1 : PySem.W.codeIn K cd1 "patience_by_age" = true) (k1 : PySem.W.keepIn K (.ref f1) = true)
    (a2 : PySem.W.nsIn K mainGlobals "check_newcomer" = some (some (.ref f2))) (l2 : K.lookup f2 = some ⟨oc2, od2, .func (PySem.W.fnOf "check_newcomer" "check_newcomer" (defArgs s_check_newcomer) (defBody s_check_newcomer) (defScope s_check_newcomer) .none kV2 dc2 pm2 an2 cd2 ct2), sl2⟩) (c2 : PySem.W.codeIn K cd2 "check_newcomer" = true) (k2 : PySem.W.keepIn K (.ref f2) = true)
    (a3 : PySem.W.nsIn K mainGlobals "check_first" = some (some (.ref f3))) (l3 : K.lookup f3 = some ⟨oc3, od3, .func (PySem.W.fnOf "check_first" "check_first" (defArgs s_check_first) (defBody s_check_first) (defScope s_check_first) .none kV3 dc3 pm3 an3 cd3 ct3), sl3⟩) (c3 : PySem.W.codeIn K cd3 "check_first" = true) (k3 : PySem.W.keepIn K (.ref f3) = true)
    (a4 : PySem.W.nsIn K mainGlobals "check_arrangement" = some (some (.ref f4))) (l4 : K.lookup f4 = some ⟨oc4, od4, .func (PySem.W.fnOf "check_arrangement" "check_arrangement" (defArgs s_check_arrangement) (defBody s_check_arrangement) (defScope s_check_arrangement) .none kV4 dc4 pm4 an4 cd4 ct4), sl4⟩) (c4 : PySem.W.codeIn K cd4 "check_arrangement" = true) (k4 : PySem.W.keepIn K (.ref f4) = true)
    (a5 : PySem.W.nsIn K mainGlobals "first_borne" = some (some (.ref f5))) (l5 : K.lookup f5 = some ⟨oc5, od5, .func (PySem.W.fnOf "first_borne" "first_borne" (defArgs s_first_borne) (defBody s_first_borne) (defScope s_first_borne) .none kV5 dc5 pm5 an5 cd5 ct5), sl5⟩) (c5 : PySem.W.codeIn K cd5 "first_borne" = true) (k5 : PySem.W.keepIn K (.ref f5) = true)
    (a6 : PySem.W.nsIn K mainGlobals "rooms" = some (some (.ref f6))) (l6 : K.lookup f6 = some ⟨oc6, od6, .func (PySem.W.fnOf "rooms" "rooms" (defArgs s_rooms) (defBody s_rooms) (defScope s_rooms) .none kV6 dc6 pm6 an6 cd6 ct6), sl6⟩) (c6 : PySem.W.codeIn K cd6 "rooms" = true) (k6 : PySem.W.keepIn K (.ref f6) = true)
    (a7 : PySem.W.nsIn K mainGlobals "sizes" = some (some (.ref f7))) (l7 : K.lookup f7 = some ⟨oc7, od7, .func (PySem.W.fnOf "sizes" "sizes" (defArgs s_sizes) (defBody s_sizes) (defScope s_sizes) .none kV7 dc7 pm7 an7 cd7 ct7), sl7⟩) (c7 : PySem.W.codeIn K cd7 "sizes" = true) (k7 : PySem.W.keepIn K (.ref f7) = true)
    (a8 : PySem.W.nsIn K mainGlobals "eldest_upset" = some (some (.ref f8))) (l8 : K.lookup f8 = some ⟨oc8, od8, .func (PySem.W.fnOf "eldest_upset" "eldest_upset" (defArgs s_eldest_upset) (defBody s_eldest_upset) (defScope s_eldest_upset) .none kV8 dc8 pm8 an8 cd8 ct8), sl8⟩) (c8 : PySem.W.codeIn K cd8 "eldest_upset" = true) (k8 : PySem.W.keepIn K (.ref f8) = true)
    (a9 : PySem.W.nsIn K mainGlobals "upset" = some (some (.ref f9))) (l9 : K.lookup f9 = some ⟨oc9, od9, .func (PySem.W.fnOf "upset" "upset" (defArgs s_upset) (defBody s_upset) (defScope s_upset) .none kV9 dc9 pm9 an9 cd9 ct9), sl9⟩) (c9 : PySem.W.codeIn K cd9 "upset" = true) (k9 : PySem.W.keepIn K (.ref f9) = true)
    (a10 : PySem.W.nsIn K mainGlobals "sent_away" = some (some (.ref f10))) (l10 : K.lookup f10 = some ⟨oc10, od10, .func (PySem.W.fnOf "sent_away" "sent_away" (defArgs s_sent_away) (defBody s_sent_away) (defScope s_sent_away) .none kV10 dc10 pm10 an10 cd10 ct10), sl10⟩) (c10 : PySem.W.codeIn K cd10 "sent_away" = true) (k10 : PySem.W.keepIn K (.ref f10) = true)
    (a11 : PySem.W.nsIn K mainGlobals "is_best" = some (some (.ref f11))) (l11 : K.lookup f11 = some ⟨oc11, od11, .func (PySem.W.fnOf "is_best" "is_best" (defArgs s_is_best) (defBody s_is_best) (defScope s_is_best) .none kV11 dc11 pm11 an11 cd11 ct11), sl11⟩) (c11 : PySem.W.codeIn K cd11 "is_best" = true) (k11 : PySem.W.keepIn K (.ref f11) = true)
    (a12 : PySem.W.nsIn K mainGlobals "pairs" = some (some (.ref f12))) (l12 : K.lookup f12 = some ⟨oc12, od12, .func (PySem.W.fnOf "pairs" "pairs" (defArgs s_pairs) (defBody s_pairs) (defScope s_pairs) .none kV12 dc12 pm12 an12 cd12 ct12), sl12⟩) (c12 : PySem.W.codeIn K cd12 "pairs" = true) (k12 : PySem.W.keepIn K (.ref f12) = true)
    (a13 : PySem.W.nsIn K mainGlobals "one_more" = some (some (.ref f13))) (l13 : K.lookup f13 = some ⟨oc13, od13, .func (PySem.W.fnOf "one_more" "one_more" (defArgs s_one_more) (defBody s_one_more) (defScope s_one_more) .none kV13 dc13 pm13 an13 cd13 ct13), sl13⟩) (c13 : PySem.W.codeIn K cd13 "one_more" = true) (k13 : PySem.W.keepIn K (.ref f13) = true)
    (a14 : PySem.W.nsIn K mainGlobals "_law_bag" = some (some (.ref f14))) (l14 : K.lookup f14 = some ⟨oc14, od14, .func (PySem.W.fnOf "_law_bag" "_law_bag" (defArgs s__law_bag) (defBody s__law_bag) (defScope s__law_bag) .none kV14 dc14 pm14 an14 cd14 ct14), sl14⟩) (c14 : PySem.W.codeIn K cd14 "_law_bag" = true) (k14 : PySem.W.keepIn K (.ref f14) = true)
    (a15 : PySem.W.nsIn K mainGlobals "_law_draw" = some (some (.ref f15))) (l15 : K.lookup f15 = some ⟨oc15, od15, .func (PySem.W.fnOf "_law_draw" "_law_draw" (defArgs s__law_draw) (defBody s__law_draw) (defScope s__law_draw) .none kV15 dc15 pm15 an15 cd15 ct15), sl15⟩) (c15 : PySem.W.codeIn K cd15 "_law_draw" = true) (k15 : PySem.W.keepIn K (.ref f15) = true)
    (a16 : PySem.W.nsIn K mainGlobals "_law_guests" = some (some (.ref f16))) (l16 : K.lookup f16 = some ⟨oc16, od16, .func (PySem.W.fnOf "_law_guests" "_law_guests" (defArgs s__law_guests) (defBody s__law_guests) (defScope s__law_guests) .none kV16 dc16 pm16 an16 cd16 ct16), sl16⟩) (c16 : PySem.W.codeIn K cd16 "_law_guests" = true) (k16 : PySem.W.keepIn K (.ref f16) = true)
    (a17 : PySem.W.nsIn K mainGlobals "_law_by_age" = some (some (.ref f17))) (l17 : K.lookup f17 = some ⟨oc17, od17, .func (PySem.W.fnOf "_law_by_age" "_law_by_age" (defArgs s__law_by_age) (defBody s__law_by_age) (defScope s__law_by_age) .none kV17 dc17 pm17 an17 cd17 ct17), sl17⟩) (c17 : PySem.W.codeIn K cd17 "_law_by_age" = true) (k17 : PySem.W.keepIn K (.ref f17) = true)
    (a18 : PySem.W.nsIn K mainGlobals "_law_caught" = some (some (.ref f18))) (l18 : K.lookup f18 = some ⟨oc18, od18, .func (PySem.W.fnOf "_law_caught" "_law_caught" (defArgs s__law_caught) (defBody s__law_caught) (defScope s__law_caught) .none kV18 dc18 pm18 an18 cd18 ct18), sl18⟩) (c18 : PySem.W.codeIn K cd18 "_law_caught" = true) (k18 : PySem.W.keepIn K (.ref f18) = true)
    (a19 : PySem.W.nsIn K mainGlobals "_law_fault" = some (some (.ref f19))) (l19 : K.lookup f19 = some ⟨oc19, od19, .func (PySem.W.fnOf "_law_fault" "_law_fault" (defArgs s__law_fault) (defBody s__law_fault) (defScope s__law_fault) .none kV19 dc19 pm19 an19 cd19 ct19), sl19⟩) (c19 : PySem.W.codeIn K cd19 "_law_fault" = true) (k19 : PySem.W.keepIn K (.ref f19) = true)
    (a20 : PySem.W.nsIn K mainGlobals "_law_room_fault" = some (some (.ref f20))) (l20 : K.lookup f20 = some ⟨oc20, od20, .func (PySem.W.fnOf "_law_room_fault" "_law_room_fault" (defArgs s__law_room_fault) (defBody s__law_room_fault) (defScope s__law_room_fault) .none kV20 dc20 pm20 an20 cd20 ct20), sl20⟩) (c20 : PySem.W.codeIn K cd20 "_law_room_fault" = true) (k20 : PySem.W.keepIn K (.ref f20) = true)
    (a21 : PySem.W.nsIn K mainGlobals "_law_bent" = some (some (.ref f21))) (l21 : K.lookup f21 = some ⟨oc21, od21, .func (PySem.W.fnOf "_law_bent" "_law_bent" (defArgs s__law_bent) (defBody s__law_bent) (defScope s__law_bent) .none kV21 dc21 pm21 an21 cd21 ct21), sl21⟩) (c21 : PySem.W.codeIn K cd21 "_law_bent" = true) (k21 : PySem.W.keepIn K (.ref f21) = true)
    (a22 : PySem.W.nsIn K mainGlobals "law" = some (some (.ref f22))) (l22 : K.lookup f22 = some ⟨oc22, od22, .func (PySem.W.fnOf "law" "law" (defArgs s_law) (defBody s_law) (defScope s_law) .none kV22 dc22 pm22 an22 cd22 ct22), sl22⟩) (c22 : PySem.W.codeIn K cd22 "law" = true) (k22 : PySem.W.keepIn K (.ref f22) = true)
    {C0 : Addr} {CNoCrowd : Addr} {CNoText : Addr} {CNoGuest fNoGuest NNoGuest : Addr} {nmNoGuest qNoGuest : Str} {bsNoGuest subNoGuest : List Value} {snNoGuest : List Str} {abNoGuest : Bool} {colNoGuest : Option Bool} {ddNoGuest odNoGuest anNoGuest : Option Addr} {m0NoGuest m1NoGuest m2NoGuest m3NoGuest m5NoGuest : Option Value} {ocNoGuest kVNoGuest dcNoGuest pmNoGuest cdNoGuest ctNoGuest : Value} {oslNoGuest : Array (Option Value)} {CNoRooms fNoRooms NNoRooms : Addr} {nmNoRooms qNoRooms : Str} {bsNoRooms subNoRooms : List Value} {snNoRooms : List Str} {abNoRooms : Bool} {colNoRooms : Option Bool} {ddNoRooms odNoRooms anNoRooms : Option Addr} {m0NoRooms m1NoRooms m2NoRooms m3NoRooms m5NoRooms : Option Value} {ocNoRooms kVNoRooms dcNoRooms pmNoRooms cdNoRooms ctNoRooms : Value} {oslNoRooms : Array (Option Value)} {CNoRoom fNoRoom NNoRoom : Addr} {nmNoRoom qNoRoom : Str} {bsNoRoom subNoRoom : List Value} {snNoRoom : List Str} {abNoRoom : Bool} {colNoRoom : Option Bool} {ddNoRoom odNoRoom anNoRoom : Option Addr} {m0NoRoom m1NoRoom m2NoRoom m3NoRoom m5NoRoom : Option Value} {ocNoRoom kVNoRoom dcNoRoom pmNoRoom cdNoRoom ctNoRoom : Value} {oslNoRoom : Array (Option Value)}
    (aC0 : PySem.W.nsIn K mainGlobals "InnError" = some (some (.ref C0)))
    (rd0 : PySem.W.readsIn K C0 (.type "type") = true)
    (sg0 : PySem.W.specialIn K (.ref C0) "__getattribute__" = some (some (.builtin "type.__getattribute__")))
    (fc0 : PySem.W.findCls K (.ref C0) (.type "type") "__init__" = some (.val (.builtin "ValueError.__init__")))
    (eC0 : PySem.W.subIn K (.ref C0) (.type "BaseException") = some true)
    (hC0 : PySem.W.hasDictIn K C0 = true)
    (tC0 : PySem.W.typeIn K (.ref C0) = some (.type "type"))
    (jn : PySem.W.specialIn K (.builtin "object.__class__") "__get__" = some (some (.builtin "getset_descriptor.__get__")))
    (jt : PySem.W.takesIn K (.builtin "object.__class__") = some true)
    (gNoCrowd : PySem.W.nsIn K mainGlobals "NoCrowd" = some (some (.ref CNoCrowd)))
    (gNoText : PySem.W.nsIn K mainGlobals "NoText" = some (some (.ref CNoText)))
    (gNoGuest : PySem.W.nsIn K mainGlobals "NoGuest" = some (some (.ref CNoGuest)))
    (xlNoGuest : K.lookup CNoGuest = some (excClassObj nmNoGuest qNoGuest CNoGuest NNoGuest bsNoGuest [.ref C0, .type "ValueError", .type "Exception", .type "BaseException", .type "object"] true snNoGuest subNoGuest abNoGuest colNoGuest ddNoGuest m0NoGuest m1NoGuest m2NoGuest m3NoGuest m5NoGuest "ValueError.__new__"))
    (saNoGuest : PySem.W.findIn K (.ref CNoGuest) "__setattr__" = some (some (.builtin "object.__setattr__")))
    (gaNoGuest : PySem.W.findIn K (.ref CNoGuest) "__getattribute__" = some (some (.builtin "BaseException.__getattribute__")))
    (ggNoGuest : PySem.W.findIn K (.ref CNoGuest) "__getattr__" = some none)
    (nwNoGuest : PySem.W.findIn K (.ref CNoGuest) "what" = some none)
    (aiNoGuest : PySem.W.findIn K (.ref CNoGuest) "__init__" = some (some (.ref fNoGuest)))
    (tiNoGuest : PySem.W.typeIn K (.ref fNoGuest) = some (.type "function"))
    (liNoGuest : K.lookup fNoGuest = some ⟨ocNoGuest, odNoGuest, .func (PySem.W.fnOf "__init__" "NoGuest.__init__" (defArgs sI_NoGuest) (defBody sI_NoGuest) (defScope sI_NoGuest) .none kVNoGuest dcNoGuest pmNoGuest anNoGuest cdNoGuest ctNoGuest), oslNoGuest⟩)
    (ciNoGuest : PySem.W.codeIn K cdNoGuest "NoGuest.__init__" = true)
    (kiNoGuest : PySem.W.keepIn K (.ref fNoGuest) = true)
    (kCNoGuest : PySem.W.keepIn K (.ref CNoGuest) = true)
    (eCNoGuest : PySem.W.subIn K (.ref CNoGuest) (.type "BaseException") = some true)
    (tCNoGuest : PySem.W.typeIn K (.ref CNoGuest) = some (.type "type"))
    (hCNoGuest : PySem.W.hasDictIn K CNoGuest = true)
    (clNoGuest : PySem.W.isClsIn K CNoGuest = true)
    (svNoGuest : PySem.W.subIn K (.ref CNoGuest) (.type "ValueError") = some true)
    (acNoGuest : PySem.W.findIn K (.ref CNoGuest) "__class__" = some (some (.builtin "object.__class__")))
    (moNoGuest : PySem.W.mroIn K CNoGuest (.type "object") = some true)
    (suNoGuest : PySem.W.subIn K (.ref CNoGuest) (.ref C0) = some true)
    (gNoRooms : PySem.W.nsIn K mainGlobals "NoRooms" = some (some (.ref CNoRooms)))
    (xlNoRooms : K.lookup CNoRooms = some (excClassObj nmNoRooms qNoRooms CNoRooms NNoRooms bsNoRooms [.ref C0, .type "ValueError", .type "Exception", .type "BaseException", .type "object"] true snNoRooms subNoRooms abNoRooms colNoRooms ddNoRooms m0NoRooms m1NoRooms m2NoRooms m3NoRooms m5NoRooms "ValueError.__new__"))
    (saNoRooms : PySem.W.findIn K (.ref CNoRooms) "__setattr__" = some (some (.builtin "object.__setattr__")))
    (gaNoRooms : PySem.W.findIn K (.ref CNoRooms) "__getattribute__" = some (some (.builtin "BaseException.__getattribute__")))
    (ggNoRooms : PySem.W.findIn K (.ref CNoRooms) "__getattr__" = some none)
    (nwNoRooms : PySem.W.findIn K (.ref CNoRooms) "what" = some none)
    (aiNoRooms : PySem.W.findIn K (.ref CNoRooms) "__init__" = some (some (.ref fNoRooms)))
    (tiNoRooms : PySem.W.typeIn K (.ref fNoRooms) = some (.type "function"))
    (liNoRooms : K.lookup fNoRooms = some ⟨ocNoRooms, odNoRooms, .func (PySem.W.fnOf "__init__" "NoRooms.__init__" (defArgs sI_NoRooms) (defBody sI_NoRooms) (defScope sI_NoRooms) .none kVNoRooms dcNoRooms pmNoRooms anNoRooms cdNoRooms ctNoRooms), oslNoRooms⟩)
    (ciNoRooms : PySem.W.codeIn K cdNoRooms "NoRooms.__init__" = true)
    (kiNoRooms : PySem.W.keepIn K (.ref fNoRooms) = true)
    (kCNoRooms : PySem.W.keepIn K (.ref CNoRooms) = true)
    (eCNoRooms : PySem.W.subIn K (.ref CNoRooms) (.type "BaseException") = some true)
    (tCNoRooms : PySem.W.typeIn K (.ref CNoRooms) = some (.type "type"))
    (hCNoRooms : PySem.W.hasDictIn K CNoRooms = true)
    (clNoRooms : PySem.W.isClsIn K CNoRooms = true)
    (svNoRooms : PySem.W.subIn K (.ref CNoRooms) (.type "ValueError") = some true)
    (acNoRooms : PySem.W.findIn K (.ref CNoRooms) "__class__" = some (some (.builtin "object.__class__")))
    (moNoRooms : PySem.W.mroIn K CNoRooms (.type "object") = some true)
    (suNoRooms : PySem.W.subIn K (.ref CNoRooms) (.ref C0) = some true)
    (gNoRoom : PySem.W.nsIn K mainGlobals "NoRoom" = some (some (.ref CNoRoom)))
    (xlNoRoom : K.lookup CNoRoom = some (excClassObj nmNoRoom qNoRoom CNoRoom NNoRoom bsNoRoom [.ref C0, .type "ValueError", .type "Exception", .type "BaseException", .type "object"] true snNoRoom subNoRoom abNoRoom colNoRoom ddNoRoom m0NoRoom m1NoRoom m2NoRoom m3NoRoom m5NoRoom "ValueError.__new__"))
    (saNoRoom : PySem.W.findIn K (.ref CNoRoom) "__setattr__" = some (some (.builtin "object.__setattr__")))
    (gaNoRoom : PySem.W.findIn K (.ref CNoRoom) "__getattribute__" = some (some (.builtin "BaseException.__getattribute__")))
    (ggNoRoom : PySem.W.findIn K (.ref CNoRoom) "__getattr__" = some none)
    (nwNoRoom : PySem.W.findIn K (.ref CNoRoom) "what" = some none)
    (aiNoRoom : PySem.W.findIn K (.ref CNoRoom) "__init__" = some (some (.ref fNoRoom)))
    (tiNoRoom : PySem.W.typeIn K (.ref fNoRoom) = some (.type "function"))
    (liNoRoom : K.lookup fNoRoom = some ⟨ocNoRoom, odNoRoom, .func (PySem.W.fnOf "__init__" "NoRoom.__init__" (defArgs sI_NoRoom) (defBody sI_NoRoom) (defScope sI_NoRoom) .none kVNoRoom dcNoRoom pmNoRoom anNoRoom cdNoRoom ctNoRoom), oslNoRoom⟩)
    (ciNoRoom : PySem.W.codeIn K cdNoRoom "NoRoom.__init__" = true)
    (kiNoRoom : PySem.W.keepIn K (.ref fNoRoom) = true)
    (kCNoRoom : PySem.W.keepIn K (.ref CNoRoom) = true)
    (eCNoRoom : PySem.W.subIn K (.ref CNoRoom) (.type "BaseException") = some true)
    (tCNoRoom : PySem.W.typeIn K (.ref CNoRoom) = some (.type "type"))
    (hCNoRoom : PySem.W.hasDictIn K CNoRoom = true)
    (clNoRoom : PySem.W.isClsIn K CNoRoom = true)
    (svNoRoom : PySem.W.subIn K (.ref CNoRoom) (.type "ValueError") = some true)
    (acNoRoom : PySem.W.findIn K (.ref CNoRoom) "__class__" = some (some (.builtin "object.__class__")))
    (moNoRoom : PySem.W.mroIn K CNoRoom (.type "object") = some true)
    (suNoRoom : PySem.W.subIn K (.ref CNoRoom) (.ref C0) = some true)
    (clNoCrowd : PySem.W.isClsIn K CNoCrowd = true)
    (tCNoCrowd : PySem.W.typeIn K (.ref CNoCrowd) = some (.type "type"))
    (clNoText : PySem.W.isClsIn K CNoText = true)
    (tCNoText : PySem.W.typeIn K (.ref CNoText) = some (.type "type"))
    (suNoGuestNoRooms : PySem.W.subIn K (.ref CNoGuest) (.ref CNoRooms) = some false)
    (neNoGuestNoRooms : CNoGuest ≠ CNoRooms)
    (suNoGuestNoRoom : PySem.W.subIn K (.ref CNoGuest) (.ref CNoRoom) = some false)
    (neNoGuestNoRoom : CNoGuest ≠ CNoRoom)
    (suNoGuestNoCrowd : PySem.W.subIn K (.ref CNoGuest) (.ref CNoCrowd) = some false)
    (neNoGuestNoCrowd : CNoGuest ≠ CNoCrowd)
    (suNoGuestNoText : PySem.W.subIn K (.ref CNoGuest) (.ref CNoText) = some false)
    (neNoGuestNoText : CNoGuest ≠ CNoText)
    (suNoRoomsNoGuest : PySem.W.subIn K (.ref CNoRooms) (.ref CNoGuest) = some false)
    (neNoRoomsNoGuest : CNoRooms ≠ CNoGuest)
    (suNoRoomsNoRoom : PySem.W.subIn K (.ref CNoRooms) (.ref CNoRoom) = some false)
    (neNoRoomsNoRoom : CNoRooms ≠ CNoRoom)
    (suNoRoomsNoCrowd : PySem.W.subIn K (.ref CNoRooms) (.ref CNoCrowd) = some false)
    (neNoRoomsNoCrowd : CNoRooms ≠ CNoCrowd)
    (suNoRoomsNoText : PySem.W.subIn K (.ref CNoRooms) (.ref CNoText) = some false)
    (neNoRoomsNoText : CNoRooms ≠ CNoText)
    (suNoRoomNoGuest : PySem.W.subIn K (.ref CNoRoom) (.ref CNoGuest) = some false)
    (neNoRoomNoGuest : CNoRoom ≠ CNoGuest)
    (suNoRoomNoRooms : PySem.W.subIn K (.ref CNoRoom) (.ref CNoRooms) = some false)
    (neNoRoomNoRooms : CNoRoom ≠ CNoRooms)
    (suNoRoomNoCrowd : PySem.W.subIn K (.ref CNoRoom) (.ref CNoCrowd) = some false)
    (neNoRoomNoCrowd : CNoRoom ≠ CNoCrowd)
    (suNoRoomNoText : PySem.W.subIn K (.ref CNoRoom) (.ref CNoText) = some false)
    (neNoRoomNoText : CNoRoom ≠ CNoText)
    (z1 : PySem.W.nsIn K mainGlobals "len" = some none) (z2 : PySem.W.nsIn K mainGlobals "range" = some none) (z3 : PySem.W.nsIn K mainGlobals "enumerate" = some none) (z4 : PySem.W.nsIn K mainGlobals "sorted" = some none) (z5 : PySem.W.nsIn K mainGlobals "sum" = some none) (z6 : PySem.W.nsIn K mainGlobals "min" = some none) (z7 : PySem.W.nsIn K mainGlobals "max" = some none) (z8 : PySem.W.nsIn K mainGlobals "isinstance" = some none) (z9 : PySem.W.nsIn K mainGlobals "zip" = some none) (z10 : PySem.W.nsIn K mainGlobals "list" = some none) (z11 : PySem.W.nsIn K mainGlobals "tuple" = some none) (z12 : PySem.W.nsIn K mainGlobals "int" = some none) (z13 : PySem.W.nsIn K mainGlobals "bool" = some none) (z14 : PySem.W.nsIn K mainGlobals "str" = some none) (z15 : PySem.W.nsIn K mainGlobals "abs" = some none) (z16 : PySem.W.nsIn K mainGlobals "repr" = some none) (z17 : PySem.W.nsIn K mainGlobals "dict" = some none) (z18 : PySem.W.nsIn K mainGlobals "any" = some none) (z19 : PySem.W.nsIn K mainGlobals "all" = some none) (z20 : PySem.W.nsIn K mainGlobals "set" = some none) (z21 : PySem.W.nsIn K mainGlobals "reversed" = some none) (z22 : PySem.W.nsIn K mainGlobals "ValueError" = some none) (z23 : PySem.W.nsIn K mainGlobals "divmod" = some none) :
    ∃ fd : FuncData, (∀ (s : Shared) (v : Value), BindsTo s fd ⟨[v], []⟩ [("script", v)]) ∧ ∀ base : Heap, K.In base → base.Ns mainGlobals mg → FnOk l.prog w K mg base CX0 8 fa fd ["script"] (sp_law K) := by
  obtain rfl : f22 = fa := by
    have e := (PySem.W.mg_of X G a22).symm.trans hfa
    injection e with e
    injection e
  have B : Bi mg := ⟨PySem.W.mg_none_of X G z1, PySem.W.mg_none_of X G z2, PySem.W.mg_none_of X G z3, PySem.W.mg_none_of X G z4, PySem.W.mg_none_of X G z5, PySem.W.mg_none_of X G z6, PySem.W.mg_none_of X G z7, PySem.W.mg_none_of X G z8, PySem.W.mg_none_of X G z9, PySem.W.mg_none_of X G z10, PySem.W.mg_none_of X G z11, PySem.W.mg_none_of X G z12, PySem.W.mg_none_of X G z13, PySem.W.mg_none_of X G z14, PySem.W.mg_none_of X G z15, PySem.W.mg_none_of X G z16, PySem.W.mg_none_of X G z17, PySem.W.mg_none_of X G z18, PySem.W.mg_none_of X G z19, PySem.W.mg_none_of X G z20, PySem.W.mg_none_of X G z21, PySem.W.mg_none_of X G z22, PySem.W.mg_none_of X G z23⟩
  have A1 : At K mg "patience_by_age" P_patience_by_age s_patience_by_age := .mk' X G a1 l1 c1 k1 fun _ _ _ _ _ _ us hl => match us, hl with | [_], _ => rfl
  have A2 : At K mg "check_newcomer" P_check_newcomer s_check_newcomer := .mk' X G a2 l2 c2 k2 fun _ _ _ _ _ _ us hl => match us, hl with | [_, _, _], _ => rfl
  have A3 : At K mg "check_first" P_check_first s_check_first := .mk' X G a3 l3 c3 k3 fun _ _ _ _ _ _ us hl => match us, hl with | [_], _ => rfl
  have A4 : At K mg "check_arrangement" P_check_arrangement s_check_arrangement := .mk' X G a4 l4 c4 k4 fun _ _ _ _ _ _ us hl => match us, hl with | [_, _], _ => rfl
  have A5 : At K mg "first_borne" P_first_borne s_first_borne := .mk' X G a5 l5 c5 k5 fun _ _ _ _ _ _ us hl => match us, hl with | [_, _], _ => rfl
  have A6 : At K mg "rooms" P_rooms s_rooms := .mk' X G a6 l6 c6 k6 fun _ _ _ _ _ _ us hl => match us, hl with | [_], _ => rfl
  have A7 : At K mg "sizes" P_sizes s_sizes := .mk' X G a7 l7 c7 k7 fun _ _ _ _ _ _ us hl => match us, hl with | [_], _ => rfl
  have A8 : At K mg "eldest_upset" P_eldest_upset s_eldest_upset := .mk' X G a8 l8 c8 k8 fun _ _ _ _ _ _ us hl => match us, hl with | [_, _], _ => rfl
  have A9 : At K mg "upset" P_upset s_upset := .mk' X G a9 l9 c9 k9 fun _ _ _ _ _ _ us hl => match us, hl with | [_, _], _ => rfl
  have A10 : At K mg "sent_away" P_sent_away s_sent_away := .mk' X G a10 l10 c10 k10 fun _ _ _ _ _ _ us hl => match us, hl with | [_, _], _ => rfl
  have A11 : At K mg "is_best" P_is_best s_is_best := .mk' X G a11 l11 c11 k11 fun _ _ _ _ _ _ us hl => match us, hl with | [_, _], _ => rfl
  have A12 : At K mg "pairs" P_pairs s_pairs := .mk' X G a12 l12 c12 k12 fun _ _ _ _ _ _ us hl => match us, hl with | [_], _ => rfl
  have A13 : At K mg "one_more" P_one_more s_one_more := .mk' X G a13 l13 c13 k13 fun _ _ _ _ _ _ us hl => match us, hl with | [_, _, _], _ => rfl
  have A14 : At K mg "_law_bag" P__law_bag s__law_bag := .mk' X G a14 l14 c14 k14 fun _ _ _ _ _ _ us hl => match us, hl with | [_], _ => rfl
  have A15 : At K mg "_law_draw" P__law_draw s__law_draw := .mk' X G a15 l15 c15 k15 fun _ _ _ _ _ _ us hl => match us, hl with | [_, _], _ => rfl
  have A16 : At K mg "_law_guests" P__law_guests s__law_guests := .mk' X G a16 l16 c16 k16 fun _ _ _ _ _ _ us hl => match us, hl with | [_, _], _ => rfl
  have A17 : At K mg "_law_by_age" P__law_by_age s__law_by_age := .mk' X G a17 l17 c17 k17 fun _ _ _ _ _ _ us hl => match us, hl with | [_], _ => rfl
  have A18 : At K mg "_law_caught" P__law_caught s__law_caught := .mk' X G a18 l18 c18 k18 fun _ _ _ _ _ _ us hl => match us, hl with | [_, _, _, _, _], _ => rfl
  have A19 : At K mg "_law_fault" P__law_fault s__law_fault := .mk' X G a19 l19 c19 k19 fun _ _ _ _ _ _ us hl => match us, hl with | [_], _ => rfl
  have A20 : At K mg "_law_room_fault" P__law_room_fault s__law_room_fault := .mk' X G a20 l20 c20 k20 fun _ _ _ _ _ _ us hl => match us, hl with | [_, _], _ => rfl
  have A21 : At K mg "_law_bent" P__law_bent s__law_bent := .mk' X G a21 l21 c21 k21 fun _ _ _ _ _ _ us hl => match us, hl with | [_, _], _ => rfl
  have A22 : At K mg "law" P_law s_law := .mk' X G a22 l22 c22 k22 fun _ _ _ _ _ _ us hl => match us, hl with | [_], _ => rfl
  refine ⟨PySem.W.fnOf "law" "law" (defArgs s_law) (defBody s_law) (defScope s_law) .none kV22 dc22 pm22 an22 cd22 ct22, fun s v => .of_eq rfl, fun base _ _ => ?_⟩
  have T0 : InnC K mg C0 := ⟨PySem.W.mg_of X G aC0, rd0, sg0, fc0⟩
  have JX : IsX K := ⟨jn, jt⟩
  have G_NoCrowd := PySem.W.mg_of X G gNoCrowd
  have G_NoText := PySem.W.mg_of X G gNoText
  have ONoGuest : Own K mg "NoGuest" CNoGuest fNoGuest := ⟨PySem.W.mg_of X G gNoGuest, ⟨⟨nmNoGuest, qNoGuest, NNoGuest, bsNoGuest, _, snNoGuest, subNoGuest, abNoGuest, colNoGuest, ddNoGuest, m0NoGuest, m1NoGuest, m2NoGuest, m3NoGuest, m5NoGuest, xlNoGuest, own_mro C0⟩, saNoGuest, eCNoGuest, tCNoGuest, kCNoGuest⟩, ⟨gaNoGuest, ggNoGuest, eCNoGuest, hCNoGuest⟩, nwNoGuest, aiNoGuest, tiNoGuest, clNoGuest, acNoGuest, moNoGuest⟩
  have E_NoGuest := own_NoGuest (P := l.prog) (w := w) (base := base) ONoGuest (fun_mk (st := sI_NoGuest) liNoGuest ciNoGuest kiNoGuest) T0
  have kv_NoGuest := kit_ve svNoGuest
  have k_NoGuest_NoGuest := kit_self (K := K) CNoGuest
  have k_NoGuest_NoRooms := kit_no suNoGuestNoRooms clNoRooms tCNoRooms neNoGuestNoRooms
  have k_NoGuest_NoRoom := kit_no suNoGuestNoRoom clNoRoom tCNoRoom neNoGuestNoRoom
  have k_NoGuest_NoCrowd := kit_no suNoGuestNoCrowd clNoCrowd tCNoCrowd neNoGuestNoCrowd
  have k_NoGuest_NoText := kit_no suNoGuestNoText clNoText tCNoText neNoGuestNoText
  have teNoGuest : PySem.W.exmOne K (.ref CNoGuest) (.ref C0) = some true := te_of eC0 hC0 tC0 suNoGuest
  have ONoRooms : Own K mg "NoRooms" CNoRooms fNoRooms := ⟨PySem.W.mg_of X G gNoRooms, ⟨⟨nmNoRooms, qNoRooms, NNoRooms, bsNoRooms, _, snNoRooms, subNoRooms, abNoRooms, colNoRooms, ddNoRooms, m0NoRooms, m1NoRooms, m2NoRooms, m3NoRooms, m5NoRooms, xlNoRooms, own_mro C0⟩, saNoRooms, eCNoRooms, tCNoRooms, kCNoRooms⟩, ⟨gaNoRooms, ggNoRooms, eCNoRooms, hCNoRooms⟩, nwNoRooms, aiNoRooms, tiNoRooms, clNoRooms, acNoRooms, moNoRooms⟩
  have E_NoRooms := own_NoRooms (P := l.prog) (w := w) (base := base) ONoRooms (fun_mk (st := sI_NoRooms) liNoRooms ciNoRooms kiNoRooms) T0
  have kv_NoRooms := kit_ve svNoRooms
  have k_NoRooms_NoGuest := kit_no suNoRoomsNoGuest clNoGuest tCNoGuest neNoRoomsNoGuest
  have k_NoRooms_NoRooms := kit_self (K := K) CNoRooms
  have k_NoRooms_NoRoom := kit_no suNoRoomsNoRoom clNoRoom tCNoRoom neNoRoomsNoRoom
  have k_NoRooms_NoCrowd := kit_no suNoRoomsNoCrowd clNoCrowd tCNoCrowd neNoRoomsNoCrowd
  have k_NoRooms_NoText := kit_no suNoRoomsNoText clNoText tCNoText neNoRoomsNoText
  have teNoRooms : PySem.W.exmOne K (.ref CNoRooms) (.ref C0) = some true := te_of eC0 hC0 tC0 suNoRooms
  have ONoRoom : Own K mg "NoRoom" CNoRoom fNoRoom := ⟨PySem.W.mg_of X G gNoRoom, ⟨⟨nmNoRoom, qNoRoom, NNoRoom, bsNoRoom, _, snNoRoom, subNoRoom, abNoRoom, colNoRoom, ddNoRoom, m0NoRoom, m1NoRoom, m2NoRoom, m3NoRoom, m5NoRoom, xlNoRoom, own_mro C0⟩, saNoRoom, eCNoRoom, tCNoRoom, kCNoRoom⟩, ⟨gaNoRoom, ggNoRoom, eCNoRoom, hCNoRoom⟩, nwNoRoom, aiNoRoom, tiNoRoom, clNoRoom, acNoRoom, moNoRoom⟩
  have E_NoRoom := own_NoRoom (P := l.prog) (w := w) (base := base) ONoRoom (fun_mk (st := sI_NoRoom) liNoRoom ciNoRoom kiNoRoom) T0
  have kv_NoRoom := kit_ve svNoRoom
  have k_NoRoom_NoGuest := kit_no suNoRoomNoGuest clNoGuest tCNoGuest neNoRoomNoGuest
  have k_NoRoom_NoRooms := kit_no suNoRoomNoRooms clNoRooms tCNoRooms neNoRoomNoRooms
  have k_NoRoom_NoRoom := kit_self (K := K) CNoRoom
  have k_NoRoom_NoCrowd := kit_no suNoRoomNoCrowd clNoCrowd tCNoCrowd neNoRoomNoCrowd
  have k_NoRoom_NoText := kit_no suNoRoomNoText clNoText tCNoText neNoRoomNoText
  have teNoRoom : PySem.W.exmOne K (.ref CNoRoom) (.ref C0) = some true := te_of eC0 hC0 tC0 suNoRoom
  have G_InnError := PySem.W.mg_of X G aC0
  have G_NoGuest := PySem.W.mg_of X G gNoGuest
  have G_NoRooms := PySem.W.mg_of X G gNoRooms
  have G_NoRoom := PySem.W.mg_of X G gNoRoom
  have K_NoGuest : KdG K mg C0 CNoGuest CNoRooms CNoRoom CNoCrowd CNoText CNoGuest true false false := ⟨⟨_, _, ONoGuest⟩, teNoGuest, k_NoGuest_NoGuest, k_NoGuest_NoRooms, k_NoGuest_NoRoom, kit_none (fun c m => by rcases List.mem_cons.mp m with rfl | m; exact k_NoGuest_NoCrowd; rw [List.mem_singleton.mp m]; exact k_NoGuest_NoText), kv_NoGuest, .inl ⟨rfl, rfl, rfl⟩⟩
  have K_NoRooms : KdG K mg C0 CNoGuest CNoRooms CNoRoom CNoCrowd CNoText CNoRooms false true false := ⟨⟨_, _, ONoRooms⟩, teNoRooms, k_NoRooms_NoGuest, k_NoRooms_NoRooms, k_NoRooms_NoRoom, kit_none (fun c m => by rcases List.mem_cons.mp m with rfl | m; exact k_NoRooms_NoCrowd; rw [List.mem_singleton.mp m]; exact k_NoRooms_NoText), kv_NoRooms, .inr (.inl ⟨rfl, rfl, rfl⟩)⟩
  have K_NoRoom : KdG K mg C0 CNoGuest CNoRooms CNoRoom CNoCrowd CNoText CNoRoom false false true := ⟨⟨_, _, ONoRoom⟩, teNoRoom, k_NoRoom_NoGuest, k_NoRoom_NoRooms, k_NoRoom_NoRoom, kit_none (fun c m => by rcases List.mem_cons.mp m with rfl | m; exact k_NoRoom_NoCrowd; rw [List.mem_singleton.mp m]; exact k_NoRoom_NoText), kv_NoRoom, .inr (.inr ⟨rfl, rfl, rfl⟩)⟩
  have D_patience_by_age := ok_patience_by_age (P := l.prog) (w := w) (base := base) A1 B
  have XD_patience_by_age := okx_patience_by_age (P := l.prog) (w := w) (base := base) A1 B E_NoGuest
  have D_check_newcomer := ok_check_newcomer (P := l.prog) (w := w) (base := base) A2 
  have XD_check_newcomer := okx_check_newcomer (P := l.prog) (w := w) (base := base) A2 E_NoGuest
  have D_check_first := ok_check_first (P := l.prog) (w := w) (base := base) A3 
  have XD_check_first := okx_check_first (P := l.prog) (w := w) (base := base) A3 E_NoRooms
  have D_check_arrangement := ok_check_arrangement (P := l.prog) (w := w) (base := base) A4 B
  have XD_check_arrangement := okx_check_arrangement (P := l.prog) (w := w) (base := base) A4 B E_NoRoom
  have D_first_borne := ok_first_borne (P := l.prog) (w := w) (base := base) A5 B
  have D_rooms := ok_rooms (P := l.prog) (w := w) (base := base) A6 B D_patience_by_age D_first_borne
  have XD_rooms := okx_rooms (P := l.prog) (w := w) (base := base) A6 B XD_patience_by_age D_first_borne D_rooms
  have D_sizes := ok_sizes (P := l.prog) (w := w) (base := base) A7 B D_rooms
  have XD_sizes := okx_sizes (P := l.prog) (w := w) (base := base) A7 B XD_rooms D_sizes
  have D_eldest_upset := ok_eldest_upset (P := l.prog) (w := w) (base := base) A8 B
  have D_upset := ok_upset (P := l.prog) (w := w) (base := base) A9 B D_patience_by_age D_check_arrangement D_eldest_upset
  have XD_upset := okx_upset (P := l.prog) (w := w) (base := base) A9 B XD_patience_by_age XD_check_arrangement D_eldest_upset D_upset
  have D_sent_away := ok_sent_away (P := l.prog) (w := w) (base := base) A10 B D_rooms D_check_first
  have XD_sent_away := okx_sent_away (P := l.prog) (w := w) (base := base) A10 B XD_rooms XD_check_first D_sent_away
  have D_is_best := ok_is_best (P := l.prog) (w := w) (base := base) A11 B D_upset D_sizes
  have XD_is_best := okx_is_best (P := l.prog) (w := w) (base := base) A11 B XD_upset D_sizes D_is_best
  have D_pairs := ok_pairs (P := l.prog) (w := w) (base := base) A12 B D_sizes
  have XD_pairs := okx_pairs (P := l.prog) (w := w) (base := base) A12 B XD_sizes D_pairs
  have D_one_more := ok_one_more (P := l.prog) (w := w) (base := base) A13 B D_patience_by_age D_check_newcomer D_sizes
  have XD_one_more := okx_one_more (P := l.prog) (w := w) (base := base) A13 B XD_patience_by_age XD_check_newcomer D_sizes D_one_more
  have D__law_bag := ok__law_bag (P := l.prog) (w := w) (base := base) A14 B
  have D__law_draw := ok__law_draw (P := l.prog) (w := w) (base := base) A15 B
  have D__law_guests := ok__law_guests (P := l.prog) (w := w) (base := base) A16 B D__law_draw
  have D__law_by_age := ok__law_by_age (P := l.prog) (w := w) (base := base) A17 B
  have D__law_caught := ok__law_caught (P := l.prog) (w := w) (base := base) A18 B G_InnError G_NoGuest G_NoRooms G_NoRoom G_NoCrowd G_NoText JX K_NoGuest K_NoRooms K_NoRoom XD_sent_away XD_is_best XD_pairs XD_one_more
  have D__law_fault := ok__law_fault (P := l.prog) (w := w) (base := base) A19 B
  have D__law_room_fault := ok__law_room_fault (P := l.prog) (w := w) (base := base) A20 B
  have D__law_bent := ok__law_bent (P := l.prog) (w := w) (base := base) A21 B D__law_draw D__law_by_age
  have D_law := ok_law (P := l.prog) (w := w) (base := base) A22 B D__law_bag D__law_draw D__law_guests D__law_bent D__law_fault D__law_room_fault D__law_caught
  exact D_law.at hfa l22
end El
open PySem PySem.W PyProof.Rows
set_option maxRecDepth 100000 in
set_option maxHeartbeats 0 in
theorem PySem.Challenge.cw_elderinn_k32_best_refused_holds : PySem.Challenge.rw_elderinn_k32_best_refused.Holds := by
  w_on; o_law; k_head; (case hw => w_witness2)
  k_fill
  refine L2.walk_of (l := PySem.Challenge.rw_elderinn_k32_best_refused) (n := 63) (k := 8) (x := "script") (CX := fun _ => L2.CX0) (sp := fun w => El.sp_law _) rfl (by decide) rfl ⟨rfl, by decide, by decide⟩ (fun w h Y => PySem.W.kIn_of Y) ?F (fun _ _ a ns hl _ hS => ⟨a, ns, rfl, hS, hl, fun _ => rfl⟩) (fun _ _ _ _ _ h => h)
  case F =>
    intro w mg fa h KX G hmg
    refine' El.all_mk KX G hmg ?a1 ?l1 ?c1 ?k1 ?a2 ?l2 ?c2 ?k2 ?a3 ?l3 ?c3 ?k3 ?a4 ?l4 ?c4 ?k4 ?a5 ?l5 ?c5 ?k5 ?a6 ?l6 ?c6 ?k6 ?a7 ?l7 ?c7 ?k7 ?a8 ?l8 ?c8 ?k8 ?a9 ?l9 ?c9 ?k9 ?a10 ?l10 ?c10 ?k10 ?a11 ?l11 ?c11 ?k11 ?a12 ?l12 ?c12 ?k12 ?a13 ?l13 ?c13 ?k13 ?a14 ?l14 ?c14 ?k14 ?a15 ?l15 ?c15 ?k15 ?a16 ?l16 ?c16 ?k16 ?a17 ?l17 ?c17 ?k17 ?a18 ?l18 ?c18 ?k18 ?a19 ?l19 ?c19 ?k19 ?a20 ?l20 ?c20 ?k20 ?a21 ?l21 ?c21 ?k21 ?a22 ?l22 ?c22 ?k22 ?aC0 ?rd0 ?sg0 ?fc0 ?eC0 ?hC0 ?tC0 ?jn ?jt ?gNoCrowd ?gNoText ?gNoGuest ?xlNoGuest ?saNoGuest ?gaNoGuest ?ggNoGuest ?nwNoGuest ?aiNoGuest ?tiNoGuest ?liNoGuest ?ciNoGuest ?kiNoGuest ?kCNoGuest ?eCNoGuest ?tCNoGuest ?hCNoGuest ?clNoGuest ?svNoGuest ?acNoGuest ?moNoGuest ?suNoGuest ?gNoRooms ?xlNoRooms ?saNoRooms ?gaNoRooms ?ggNoRooms ?nwNoRooms ?aiNoRooms ?tiNoRooms ?liNoRooms ?ciNoRooms ?kiNoRooms ?kCNoRooms ?eCNoRooms ?tCNoRooms ?hCNoRooms ?clNoRooms ?svNoRooms ?acNoRooms ?moNoRooms ?suNoRooms ?gNoRoom ?xlNoRoom ?saNoRoom ?gaNoRoom ?ggNoRoom ?nwNoRoom ?aiNoRoom ?tiNoRoom ?liNoRoom ?ciNoRoom ?kiNoRoom ?kCNoRoom ?eCNoRoom ?tCNoRoom ?hCNoRoom ?clNoRoom ?svNoRoom ?acNoRoom ?moNoRoom ?suNoRoom ?clNoCrowd ?tCNoCrowd ?clNoText ?tCNoText ?suNoGuestNoRooms ?neNoGuestNoRooms ?suNoGuestNoRoom ?neNoGuestNoRoom ?suNoGuestNoCrowd ?neNoGuestNoCrowd ?suNoGuestNoText ?neNoGuestNoText ?suNoRoomsNoGuest ?neNoRoomsNoGuest ?suNoRoomsNoRoom ?neNoRoomsNoRoom ?suNoRoomsNoCrowd ?neNoRoomsNoCrowd ?suNoRoomsNoText ?neNoRoomsNoText ?suNoRoomNoGuest ?neNoRoomNoGuest ?suNoRoomNoRooms ?neNoRoomNoRooms ?suNoRoomNoCrowd ?neNoRoomNoCrowd ?suNoRoomNoText ?neNoRoomNoText ?z1 ?z2 ?z3 ?z4 ?z5 ?z6 ?z7 ?z8 ?z9 ?z10 ?z11 ?z12 ?z13 ?z14 ?z15 ?z16 ?z17 ?z18 ?z19 ?z20 ?z21 ?z22 ?z23
    (case a1 => k_is)
    (case l1 => k_is)
    (case c1 => k_is)
    (case k1 => k_is)
    (case a2 => k_is)
    (case l2 => k_is)
    (case c2 => k_is)
    (case k2 => k_is)
    (case a3 => k_is)
    (case l3 => k_is)
    (case c3 => k_is)
    (case k3 => k_is)
    (case a4 => k_is)
    (case l4 => k_is)
    (case c4 => k_is)
    (case k4 => k_is)
    (case a5 => k_is)
    (case l5 => k_is)
    (case c5 => k_is)
    (case k5 => k_is)
    (case a6 => k_is)
    (case l6 => k_is)
    (case c6 => k_is)
    (case k6 => k_is)
    (case a7 => k_is)
    (case l7 => k_is)
    (case c7 => k_is)
    (case k7 => k_is)
    (case a8 => k_is)
    (case l8 => k_is)
    (case c8 => k_is)
    (case k8 => k_is)
    (case a9 => k_is)
    (case l9 => k_is)
    (case c9 => k_is)
    (case k9 => k_is)
    (case a10 => k_is)
    (case l10 => k_is)
    (case c10 => k_is)
    (case k10 => k_is)
    (case a11 => k_is)
    (case l11 => k_is)
    (case c11 => k_is)
    (case k11 => k_is)
    (case a12 => k_is)
    (case l12 => k_is)
    (case c12 => k_is)
    (case k12 => k_is)
    (case a13 => k_is)
    (case l13 => k_is)
    (case c13 => k_is)
    (case k13 => k_is)
    (case a14 => k_is)
    (case l14 => k_is)
    (case c14 => k_is)
    (case k14 => k_is)
    (case a15 => k_is)
    (case l15 => k_is)
    (case c15 => k_is)
    (case k15 => k_is)
    (case a16 => k_is)
    (case l16 => k_is)
    (case c16 => k_is)
    (case k16 => k_is)
    (case a17 => k_is)
    (case l17 => k_is)
    (case c17 => k_is)
    (case k17 => k_is)
    (case a18 => k_is)
    (case l18 => k_is)
    (case c18 => k_is)
    (case k18 => k_is)
    (case a19 => k_is)
    (case l19 => k_is)
    (case c19 => k_is)
    (case k19 => k_is)
    (case a20 => k_is)
    (case l20 => k_is)
    (case c20 => k_is)
    (case k20 => k_is)
    (case a21 => k_is)
    (case l21 => k_is)
    (case c21 => k_is)
    (case k21 => k_is)
    (case a22 => k_is)
    (case l22 => k_is)
    (case c22 => k_is)
    (case k22 => k_is)
    (case aC0 => k_is)
    (case rd0 => k_is)
    (case sg0 => k_is)
    (case fc0 => k_is)
    (case eC0 => k_is)
    (case hC0 => k_is)
    (case tC0 => k_is)
    (case jn => k_is)
    (case jt => k_is)
    (case gNoCrowd => k_is)
    (case gNoText => k_is)
    (case gNoGuest => k_is)
    (case xlNoGuest => k_is)
    (case saNoGuest => k_is)
    (case gaNoGuest => k_is)
    (case ggNoGuest => k_is)
    (case nwNoGuest => k_is)
    (case aiNoGuest => k_is)
    (case tiNoGuest => k_is)
    (case liNoGuest => k_is)
    (case ciNoGuest => k_is)
    (case kiNoGuest => k_is)
    (case kCNoGuest => k_is)
    (case eCNoGuest => k_is)
    (case tCNoGuest => k_is)
    (case hCNoGuest => k_is)
    (case clNoGuest => k_is)
    (case svNoGuest => k_is)
    (case acNoGuest => k_is)
    (case moNoGuest => k_is)
    (case suNoGuest => k_is)
    (case gNoRooms => k_is)
    (case xlNoRooms => k_is)
    (case saNoRooms => k_is)
    (case gaNoRooms => k_is)
    (case ggNoRooms => k_is)
    (case nwNoRooms => k_is)
    (case aiNoRooms => k_is)
    (case tiNoRooms => k_is)
    (case liNoRooms => k_is)
    (case ciNoRooms => k_is)
    (case kiNoRooms => k_is)
    (case kCNoRooms => k_is)
    (case eCNoRooms => k_is)
    (case tCNoRooms => k_is)
    (case hCNoRooms => k_is)
    (case clNoRooms => k_is)
    (case svNoRooms => k_is)
    (case acNoRooms => k_is)
    (case moNoRooms => k_is)
    (case suNoRooms => k_is)
    (case gNoRoom => k_is)
    (case xlNoRoom => k_is)
    (case saNoRoom => k_is)
    (case gaNoRoom => k_is)
    (case ggNoRoom => k_is)
    (case nwNoRoom => k_is)
    (case aiNoRoom => k_is)
    (case tiNoRoom => k_is)
    (case liNoRoom => k_is)
    (case ciNoRoom => k_is)
    (case kiNoRoom => k_is)
    (case kCNoRoom => k_is)
    (case eCNoRoom => k_is)
    (case tCNoRoom => k_is)
    (case hCNoRoom => k_is)
    (case clNoRoom => k_is)
    (case svNoRoom => k_is)
    (case acNoRoom => k_is)
    (case moNoRoom => k_is)
    (case suNoRoom => k_is)
    (case clNoCrowd => k_is)
    (case tCNoCrowd => k_is)
    (case clNoText => k_is)
    (case tCNoText => k_is)
    (case suNoGuestNoRooms => k_is)
    (case neNoGuestNoRooms => decide)
    (case suNoGuestNoRoom => k_is)
    (case neNoGuestNoRoom => decide)
    (case suNoGuestNoCrowd => k_is)
    (case neNoGuestNoCrowd => decide)
    (case suNoGuestNoText => k_is)
    (case neNoGuestNoText => decide)
    (case suNoRoomsNoGuest => k_is)
    (case neNoRoomsNoGuest => decide)
    (case suNoRoomsNoRoom => k_is)
    (case neNoRoomsNoRoom => decide)
    (case suNoRoomsNoCrowd => k_is)
    (case neNoRoomsNoCrowd => decide)
    (case suNoRoomsNoText => k_is)
    (case neNoRoomsNoText => decide)
    (case suNoRoomNoGuest => k_is)
    (case neNoRoomNoGuest => decide)
    (case suNoRoomNoRooms => k_is)
    (case neNoRoomNoRooms => decide)
    (case suNoRoomNoCrowd => k_is)
    (case neNoRoomNoCrowd => decide)
    (case suNoRoomNoText => k_is)
    (case neNoRoomNoText => decide)
    (case z1 => k_is)
    (case z2 => k_is)
    (case z3 => k_is)
    (case z4 => k_is)
    (case z5 => k_is)
    (case z6 => k_is)
    (case z7 => k_is)
    (case z8 => k_is)
    (case z9 => k_is)
    (case z10 => k_is)
    (case z11 => k_is)
    (case z12 => k_is)
    (case z13 => k_is)
    (case z14 => k_is)
    (case z15 => k_is)
    (case z16 => k_is)
    (case z17 => k_is)
    (case z18 => k_is)
    (case z19 => k_is)
    (case z20 => k_is)
    (case z21 => k_is)
    (case z22 => k_is)
    (case z23 => k_is)
