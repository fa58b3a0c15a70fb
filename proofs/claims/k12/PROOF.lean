import PyProof.Rows.All
import Wide.All
import OpenK.AllK
import Wide.FinOn
import HandS.ForMost
import HandS.ForExc
import HandS.Wide
import HandS.SortKw
import HandS.SortRule
import HandS.SortInts
import HandS.Style
import HandS.IsInst
import HandS.Conv
import HandS.Walk
import HandS.Flow
import HandS.More
import HandS.Defaults
import HandS.RaiseMore
import HandS.Remove
import HandS.Star
import HandS.Steps
import HandS.DictComp
import HandS.DictTup
import HandS.ExcValue
import HandS.ListItems
import HandS.SetFor
import HandS.Strs
import HandS.Zip
import KE.DatumOrd
import KE.GoesEnum
import KE.KDictZip
import PySem.Challenge.RW_elderinn_k12_whole_histories_by_age
set_option Elab.async false
set_option linter.all false
set_option maxRecDepth 100000
set_option maxHeartbeats 8000000
namespace El
/-! ### the rule by age, in plain lists -/
def place : List (List Int) → Int → Int → List (List Int)
  | [], a, _ => [[a]]
  | r :: rs, a, p => if (r.length : Int) ≤ p then (r ++ [a]) :: rs else r :: place rs a p
def firstB : List (List Int) → Int → Nat
  | [], _ => 0
  | r :: rs, p => if (r.length : Int) ≤ p then 0 else firstB rs p + 1
theorem firstB_le : ∀ (rs : List (List Int)) (p : Int), firstB rs p ≤ rs.length
  | [], _ => Nat.le_refl _
  | r :: rs, p => by
    unfold firstB
    split
    · exact Nat.zero_le _
    · exact Nat.succ_le_succ (firstB_le rs p)
theorem firstB_out : ∀ (rs : List (List Int)) (p : Int) (i : Nat) (r : List Int), i < firstB rs p → rs[i]? = some r → p < (r.length : Int)
  | [], _, _, _, h, _ => absurd h (Nat.not_lt_zero _)
  | s :: rs, p, i, r, h, e => by
    unfold firstB at h
    split at h
    · exact absurd h (Nat.not_lt_zero _)
    · rename_i hn
      cases i with
      | zero =>
        have e' : s = r := Option.some.inj e
        subst e'
        omega
      | succ i => exact firstB_out rs p i r (Nat.lt_of_succ_lt_succ h) (by simpa using e)
theorem firstB_in : ∀ (rs : List (List Int)) (p : Int), firstB rs p < rs.length → ∃ r, rs[firstB rs p]? = some r ∧ (r.length : Int) ≤ p
  | [], _, h => absurd h (Nat.not_lt_zero _)
  | s :: rs, p, h => by
    unfold firstB at h ⊢
    split
    · rename_i hn
      exact ⟨s, rfl, hn⟩
    · rename_i hn
      rw [if_neg hn] at h
      obtain ⟨r, e, q⟩ := firstB_in rs p (Nat.lt_of_succ_lt_succ h)
      exact ⟨r, by simpa using e, q⟩
theorem firstB_is : ∀ (rs : List (List Int)) (p : Int) (i : Nat), i ≤ rs.length → (∀ j r, j < i → rs[j]? = some r → p < (r.length : Int)) → (∀ r, rs[i]? = some r → (r.length : Int) ≤ p) → firstB rs p = i
  | [], _, i, h, _, _ => by
    have : i = 0 := Nat.le_zero.mp h
    subst this
    rfl
  | s :: rs, p, 0, _, _, h2 => by
    unfold firstB
    rw [if_pos (h2 s rfl)]
  | s :: rs, p, i + 1, h, h1, h2 => by
    have h0 := h1 0 s (Nat.succ_pos _) rfl
    unfold firstB
    rw [if_neg (by omega), firstB_is rs p i (Nat.le_of_succ_le_succ h) (fun j r hj e => h1 (j + 1) r (Nat.succ_lt_succ hj) (by simpa using e)) fun r e => h2 r (by simpa using e)]
theorem place_new : ∀ (rs : List (List Int)) (a p : Int), firstB rs p = rs.length → place rs a p = rs ++ [[a]]
  | [], _, _, _ => rfl
  | r :: rs, a, p, h => by
    unfold firstB at h
    unfold place
    split at h
    · exact absurd h (by rw [List.length_cons]; omega)
    · rename_i hn
      rw [if_neg hn, place_new rs a p (by rw [List.length_cons] at h; omega)]
      rfl
theorem place_at : ∀ (rs : List (List Int)) (a p : Int) (r : List Int), rs[firstB rs p]? = some r → place rs a p = rs.set (firstB rs p) (r ++ [a])
  | [], _, _, _, h => by simp at h
  | s :: rs, a, p, r, h => by
    unfold firstB at h ⊢
    unfold place
    split
    · rename_i hn
      rw [if_pos hn] at h
      have e : s = r := Option.some.inj h
      subst e
      rfl
    · rename_i hn
      rw [if_neg hn] at h
      rw [place_at rs a p r (by simpa using h)]
      rfl
theorem place_len (rs : List (List Int)) (a p : Int) : (place rs a p).length = if firstB rs p = rs.length then rs.length + 1 else rs.length := by
  by_cases h : firstB rs p = rs.length
  · rw [if_pos h, place_new rs a p h, List.length_append]
    rfl
  · have hl := firstB_le rs p
    obtain ⟨r, e, _⟩ := firstB_in rs p (by omega)
    rw [if_neg h, place_at rs a p r e, List.length_set]
/-- all in order -/
def settleL (gs : List (Int × Int)) : List (List Int) := gs.foldl (fun rs g => place rs g.1 g.2) []
theorem settleL_snoc (gs : List (Int × Int)) (g : Int × Int) : settleL (gs ++ [g]) = place (settleL gs) g.1 g.2 := by
  unfold settleL
  rw [List.foldl_append]
  rfl
theorem settleL_take {gs : List (Int × Int)} {i : Nat} {g : Int × Int} (h : gs[i]? = some g) : settleL (gs.take (i + 1)) = place (settleL (gs.take i)) g.1 g.2 := by
  rw [List.take_add_one, h]
  exact settleL_snoc _ _
theorem place_count (rs : List (List Int)) (a p : Int) : (place rs a p).flatten.length = rs.flatten.length + 1 := by
  induction rs with
  | nil => rfl
  | cons r rs ih =>
    unfold place
    split
    · simp only [List.flatten_cons, List.length_append, List.length_cons, List.length_nil]
      omega
    · simp only [List.flatten_cons, List.length_append]
      omega
theorem settleL_count (gs : List (Int × Int)) : (settleL gs).flatten.length = gs.length := by
  suffices h : ∀ (gs : List (Int × Int)) (rs : List (List Int)), (gs.foldl (fun rs g => place rs g.1 g.2) rs).flatten.length = rs.flatten.length + gs.length by
    have q := h gs []
    rw [List.flatten_nil, List.length_nil, Nat.zero_add] at q
    exact q
  intro gs
  induction gs with
  | nil => intro rs; rfl
  | cons g gs ih =>
    intro rs
    rw [List.foldl_cons, ih, place_count, List.length_cons]
    omega
theorem place_ne (rs : List (List Int)) (a p : Int) (h : ∀ r ∈ rs, r ≠ []) : ∀ r ∈ place rs a p, r ≠ [] := by
  induction rs with
  | nil =>
    intro r hr
    rw [List.mem_singleton.mp hr]
    exact List.cons_ne_nil _ _
  | cons s rs ih =>
    unfold place
    split
    · intro r hr
      rcases List.mem_cons.mp hr with e | hr
      · rw [e]
        simp
      · exact h r (List.mem_cons_of_mem _ hr)
    · intro r hr
      rcases List.mem_cons.mp hr with e | hr
      · rw [e]
        exact h s List.mem_cons_self
      · exact ih (fun r hr => h r (List.mem_cons_of_mem _ hr)) r hr
theorem settleL_ne (gs : List (Int × Int)) : ∀ r ∈ settleL gs, r ≠ [] := by
  suffices h : ∀ (gs : List (Int × Int)) (rs : List (List Int)), (∀ r ∈ rs, r ≠ []) → ∀ r ∈ gs.foldl (fun rs g => place rs g.1 g.2) rs, r ≠ [] from h gs [] (fun r hr => absurd hr (by simp))
  intro gs
  induction gs with
  | nil => intro rs h; exact h
  | cons g gs ih =>
    intro rs h
    rw [List.foldl_cons]
    exact ih _ (place_ne rs _ _ h)
theorem len_le_flat : ∀ (rs : List (List Int)), (∀ r ∈ rs, r ≠ []) → rs.length ≤ rs.flatten.length
  | [], _ => Nat.le_refl _
  | r :: rs, h => by
    have h1 := h r List.mem_cons_self
    have h2 := len_le_flat rs fun r hr => h r (List.mem_cons_of_mem _ hr)
    have h3 : 0 < r.length := List.length_pos_iff.mpr h1
    rw [List.flatten_cons, List.length_append, List.length_cons]
    omega
theorem room_le_flat : ∀ (rs : List (List Int)) (r : List Int), r ∈ rs → r.length ≤ rs.flatten.length
  | s :: rs, r, h => by
    rw [List.flatten_cons, List.length_append]
    rcases List.mem_cons.mp h with e | h
    · rw [e]
      omega
    · have := room_le_flat rs r h
      omega
theorem settleL_len (gs : List (Int × Int)) : (settleL gs).length ≤ gs.length := by
  rw [← settleL_count gs]
  exact len_le_flat _ (settleL_ne gs)
theorem settleL_room {gs : List (Int × Int)} {r : List Int} (h : r ∈ settleL gs) : r.length ≤ gs.length := by
  rw [← settleL_count gs]
  exact room_le_flat _ _ h
/-- sizes never rise -/
def Falls (rs : List (List Int)) : Prop := rs.Pairwise fun r s => s.length ≤ r.length
theorem place_mem {rs : List (List Int)} {a p : Int} {r : List Int} (h : r ∈ place rs a p) : r ∈ rs ∨ (∃ s ∈ rs, r = s ++ [a] ∧ (s.length : Int) ≤ p) ∨ r = [a] := by
  induction rs with
  | nil => exact .inr (.inr (List.mem_singleton.mp h))
  | cons s rs ih =>
    unfold place at h
    split at h
    · rename_i hn
      rcases List.mem_cons.mp h with e | h
      · exact .inr (.inl ⟨s, List.mem_cons_self, e, hn⟩)
      · exact .inl (List.mem_cons_of_mem _ h)
    · rcases List.mem_cons.mp h with e | h
      · rw [e]
        exact .inl List.mem_cons_self
      · rcases ih h with q | ⟨t, ht, q⟩ | q
        · exact .inl (List.mem_cons_of_mem _ q)
        · exact .inr (.inl ⟨t, List.mem_cons_of_mem _ ht, q⟩)
        · exact .inr (.inr q)
theorem place_falls (rs : List (List Int)) (a p : Int) (hp : 0 ≤ p) (h : Falls rs) : Falls (place rs a p) := by
  induction rs with
  | nil => exact List.pairwise_singleton _ _
  | cons s rs ih =>
    obtain ⟨h1, h2⟩ := List.pairwise_cons.mp h
    unfold place
    split
    · refine List.pairwise_cons.mpr ⟨fun r hr => ?_, h2⟩
      have := h1 r hr
      rw [List.length_append]
      omega
    · rename_i hn
      refine List.pairwise_cons.mpr ⟨fun r hr => ?_, ih h2⟩
      rcases place_mem hr with q | ⟨t, ht, q, q2⟩ | q
      · exact h1 r q
      · rw [q, List.length_append, List.length_singleton]
        omega
      · rw [q, List.length_singleton]
        omega
theorem settleL_falls (gs : List (Int × Int)) (h : ∀ g ∈ gs, 0 ≤ g.2) : Falls (settleL gs) := by
  suffices q : ∀ (gs : List (Int × Int)) (rs : List (List Int)), (∀ g ∈ gs, 0 ≤ g.2) → Falls rs → Falls (gs.foldl (fun rs g => place rs g.1 g.2) rs) from q gs [] h List.Pairwise.nil
  intro gs
  induction gs with
  | nil => intro rs _ hr; exact hr
  | cons g gs ih =>
    intro rs hg hr
    rw [List.foldl_cons]
    exact ih _ (fun x hx => hg x (List.mem_cons_of_mem _ hx)) (place_falls rs _ _ (hg g List.mem_cons_self) hr)
/-! ### from the eldest on -/
def byAge (gs : List (Int × Int)) : List (Int × Int) := gs.mergeSort fun g h => decide (h.1 ≤ g.1)
theorem byAge_perm (gs : List (Int × Int)) : (byAge gs).Perm gs := List.mergeSort_perm _ _
theorem byAge_sorted (gs : List (Int × Int)) : (byAge gs).Pairwise fun g h => h.1 ≤ g.1 := by
  have q := List.pairwise_mergeSort (le := fun (g h : Int × Int) => decide (h.1 ≤ g.1)) (fun a b c h1 h2 => by
    have h1 := of_decide_eq_true h1
    have h2 := of_decide_eq_true h2
    exact decide_eq_true (by omega)) (fun a b => by
    by_cases h : b.1 ≤ a.1
    · simp [h]
    · have : a.1 ≤ b.1 := by omega
      simp [this]) gs
  exact q.imp fun h => of_decide_eq_true h
theorem byAge_length (gs : List (Int × Int)) : (byAge gs).length = gs.length := (byAge_perm gs).length_eq
theorem sorted_uniq {α : Type} (k : α → Int) : ∀ {l m : List α}, l.Perm m → (l.map k).Nodup → l.Pairwise (fun g h => k h ≤ k g) → m.Pairwise (fun g h => k h ≤ k g) → l = m
  | [], m, p, _, _, _ => by rw [List.nil_perm.mp p]
  | x :: l, [], p, _, _, _ => absurd p.length_eq (by simp)
  | x :: l, y :: m, p, nd, h1, h2 => by
    have nd' : (k x :: l.map k).Nodup := nd
    obtain ⟨n1, n2⟩ := List.nodup_cons.mp nd'
    obtain ⟨a1, a2⟩ := List.pairwise_cons.mp h1
    obtain ⟨b1, b2⟩ := List.pairwise_cons.mp h2
    have e : x = y := by
      rcases List.mem_cons.mp (p.mem_iff.mp List.mem_cons_self) with e | hx
      · exact e
      · have hy : y ∈ x :: l := p.mem_iff.mpr List.mem_cons_self
        rcases List.mem_cons.mp hy with e | hy
        · exact e.symm
        · have c1 := b1 x hx
          have c2 := a1 y hy
          have c3 : k x = k y := by omega
          exact absurd (List.mem_map.mpr ⟨y, hy, c3.symm⟩) n1
    subst e
    rw [sorted_uniq k (List.Perm.cons_inv p) n2 a2 b2]
def settle (gs : List (Int × Int)) : List (List Int) := settleL (byAge gs)
/-- guests that there can be -/
structure Fit (gs : List (Int × Int)) : Prop where
  nd : (gs.map (·.1)).Nodup
  pos : ∀ g ∈ gs, 0 ≤ g.2
theorem Fit.perm {gs hs : List (Int × Int)} (f : Fit gs) (p : hs.Perm gs) : Fit hs := ⟨((p.map (·.1)).nodup_iff).mpr f.nd, fun g hg => f.pos g (p.mem_iff.mp hg)⟩
theorem Fit.byAge {gs : List (Int × Int)} (f : Fit gs) : Fit (byAge gs) := f.perm (byAge_perm gs)
theorem byAge_of {gs hs : List (Int × Int)} (f : Fit gs) (p : hs.Perm gs) (h : hs.Pairwise fun g h => h.1 ≤ g.1) : hs = byAge gs :=
  sorted_uniq (·.1) (p.trans (byAge_perm gs).symm) (f.perm p).nd h (byAge_sorted gs)
theorem byAge_congr {gs hs : List (Int × Int)} (f : Fit gs) (p : hs.Perm gs) : byAge hs = byAge gs :=
  byAge_of f ((byAge_perm hs).trans p) (byAge_sorted hs)
theorem ages_of {gs : List (Int × Int)} (f : Fit gs) {ns : List Int} (p : ns.Perm (gs.map (·.1))) (h : ns.Pairwise (· ≥ ·)) : ns = (byAge gs).map (·.1) := by
  refine sorted_uniq (fun x : Int => x) (p.trans ((byAge_perm gs).map (·.1)).symm) ?_ (h.imp fun q => q) ?_
  · rw [List.map_id']
    exact (p.nodup_iff).mpr f.nd
  · rw [List.pairwise_map]
    exact byAge_sorted gs
theorem settle_congr {gs hs : List (Int × Int)} (f : Fit gs) (p : hs.Perm gs) : settle hs = settle gs := by
  unfold settle
  rw [byAge_congr f p]
end El
namespace El
/-! ### who has more elders than they bear -/
def down (ns : List Int) : List Int := ns.mergeSort fun a b => decide (b ≤ a)
theorem down_perm (ns : List Int) : (down ns).Perm ns := List.mergeSort_perm _ _
theorem down_sorted (ns : List Int) : (down ns).Pairwise (· ≥ ·) := by
  have q := List.pairwise_mergeSort (le := fun (g h : Int) => decide (h ≤ g)) (fun a b c h1 h2 => by
    have h1 := of_decide_eq_true h1
    have h2 := of_decide_eq_true h2
    exact decide_eq_true (by omega)) (fun a b => by
    by_cases h : b ≤ a
    · simp [h]
    · have : a ≤ b := by omega
      simp [this]) ns
  exact q.imp fun h => of_decide_eq_true h
theorem desc_uniq : ∀ {l m : List Int}, l.Perm m → l.Pairwise (· ≥ ·) → m.Pairwise (· ≥ ·) → l = m
  | [], m, p, _, _ => by rw [List.nil_perm.mp p]
  | x :: l, [], p, _, _ => absurd p.length_eq (by simp)
  | x :: l, y :: m, p, h1, h2 => by
    obtain ⟨a1, a2⟩ := List.pairwise_cons.mp h1
    obtain ⟨b1, b2⟩ := List.pairwise_cons.mp h2
    have e : x = y := by
      rcases List.mem_cons.mp (p.mem_iff.mp List.mem_cons_self) with e | hx
      · exact e
      · have hy : y ∈ x :: l := p.mem_iff.mpr List.mem_cons_self
        rcases List.mem_cons.mp hy with e | hy
        · exact e.symm
        · have c1 := b1 x hx
          have c2 := a1 y hy
          omega
    subst e
    rw [desc_uniq (List.Perm.cons_inv p) a2 b2]
theorem down_is {l ns : List Int} (p : l.Perm ns) (h : l.Pairwise (· ≥ ·)) : l = down ns := desc_uniq (p.trans (down_perm ns).symm) h (down_sorted ns)
def pof (gs : List (Int × Int)) (a : Int) : Int := match gs.find? fun g => decide (g.1 = a) with | some g => g.2 | none => 0
theorem pof_is : ∀ {gs : List (Int × Int)} {g : Int × Int}, (gs.map (·.1)).Nodup → g ∈ gs → pof gs g.1 = g.2
  | x :: gs, g, nd, h => by
    have nd' : (x.1 :: gs.map (·.1)).Nodup := nd
    obtain ⟨n1, n2⟩ := List.nodup_cons.mp nd'
    rcases List.mem_cons.mp h with e | h
    · subst e
      unfold pof
      rw [List.find?_cons_of_pos (by simp)]
    · have n : ¬ x.1 = g.1 := fun z => n1 (by rw [z]; exact List.mem_map.mpr ⟨g, h, rfl⟩)
      have := pof_is n2 h
      unfold pof at this ⊢
      rw [List.find?_cons_of_neg (by simpa using n)]
      exact this
def upIn (pf : Int → Int) : List Int → Nat → Option Int
  | [], _ => none
  | a :: l, i => if pf a < (i : Int) then some a else upIn pf l (i + 1)
theorem upIn_none {pf : Int → Int} : ∀ {l : List Int} {k : Nat}, (∀ (i : Nat) (a : Int), l[i]? = some a → ((i + k : Nat) : Int) ≤ pf a) → upIn pf l k = none
  | [], _, _ => rfl
  | a :: l, k, h => by
    unfold upIn
    have h0 := h 0 a rfl
    rw [if_neg (by omega)]
    exact upIn_none fun i b e => by
      have := h (i + 1) b (by simpa using e)
      omega
theorem upIn_at {pf : Int → Int} {l : List Int} {a : Int} : ∀ {i k : Nat}, l[i]? = some a → (∀ (j : Nat) (b : Int), j < i → l[j]? = some b → ((j + k : Nat) : Int) ≤ pf b) → pf a < ((i + k : Nat) : Int) → upIn pf l k = some a := by
  induction l with
  | nil => intro i k e; simp at e
  | cons x l ih =>
    intro i k e h1 h2
    unfold upIn
    cases i with
    | zero =>
      obtain rfl : x = a := Option.some.inj e
      rw [if_pos (by omega)]
    | succ i =>
      have h0 := h1 0 x (Nat.succ_pos _) rfl
      rw [if_neg (by omega)]
      exact ih (i := i) (by simpa using e) (fun j b hj e' => by
        have := h1 (j + 1) b (Nat.succ_lt_succ hj) (by simpa using e')
        omega) (by omega)
def eldUp (gs : List (Int × Int)) (ns : List Int) : Option Int := upIn (pof gs) (down ns) 0
def upsetOf (gs : List (Int × Int)) : List (List Int) → Nat → Option (Nat × Int)
  | [], _ => none
  | r :: rs, i => match eldUp gs r with | some a => some (i, a) | none => upsetOf gs rs (i + 1)
theorem upsetOf_none {gs : List (Int × Int)} : ∀ {rs : List (List Int)} {k : Nat}, (∀ r ∈ rs, eldUp gs r = none) → upsetOf gs rs k = none
  | [], _, _ => rfl
  | r :: rs, k, h => by
    unfold upsetOf
    rw [h r List.mem_cons_self]
    exact upsetOf_none fun s m => h s (List.mem_cons_of_mem _ m)
theorem upsetOf_at {gs : List (Int × Int)} {rs : List (List Int)} {r : List Int} {a : Int} : ∀ {i k : Nat}, rs[i]? = some r → (∀ (j : Nat) (s : List Int), j < i → rs[j]? = some s → eldUp gs s = none) → eldUp gs r = some a → upsetOf gs rs k = some (i + k, a) := by
  induction rs with
  | nil => intro i k e; simp at e
  | cons x rs ih =>
    intro i k e h1 h2
    unfold upsetOf
    cases i with
    | zero =>
      obtain rfl : x = r := Option.some.inj e
      rw [h2, Nat.zero_add]
    | succ i =>
      rw [h1 0 x (Nat.succ_pos _) rfl]
      have z := ih (i := i) (k := k + 1) (by simpa using e) (fun j b hj e' => h1 (j + 1) b (Nat.succ_lt_succ hj) (by simpa using e')) h2
      show upsetOf gs rs (k + 1) = _
      rw [z, show i + (k + 1) = i + 1 + k by omega]
/-! ### the rooms by age are in peace -/
def Fine (L : List (Int × Int)) (r : List Int) : Prop := r.Pairwise (· ≥ ·) ∧ ∀ (i : Nat) (a : Int), r[i]? = some a → ∃ g ∈ L, g.1 = a ∧ (i : Int) ≤ g.2
theorem Fine.mem {L : List (Int × Int)} {r : List Int} (h : Fine L r) {a : Int} (m : a ∈ r) : ∃ g ∈ L, g.1 = a := by
  obtain ⟨i, e⟩ := List.mem_iff_getElem?.mp m
  obtain ⟨g, h1, h2, _⟩ := h.2 i a e
  exact ⟨g, h1, h2⟩
theorem Fine.more {L M : List (Int × Int)} {r : List Int} (h : Fine L r) (k : ∀ g ∈ L, g ∈ M) : Fine M r := ⟨h.1, fun i a e => by
  obtain ⟨g, h1, h2⟩ := h.2 i a e
  exact ⟨g, k g h1, h2⟩⟩
theorem settleL_fine {L : List (Int × Int)} (hL : L.Pairwise fun g h => h.1 ≤ g.1) (hp : ∀ g ∈ L, 0 ≤ g.2) : ∀ i, i ≤ L.length → ∀ r ∈ settleL (L.take i), Fine (L.take i) r
  | 0, _, r, hr => by
    rw [List.take_zero] at hr
    exact absurd hr (List.not_mem_nil)
  | i + 1, hi, r, hr => by
    have ih := settleL_fine hL hp i (by omega)
    have eg : L[i]? = some L[i] := List.getElem?_eq_getElem hi
    generalize hg : L[i] = g at eg
    have hm : g ∈ L := List.mem_of_getElem? eg
    have hle : ∀ x ∈ L.take i, g.1 ≤ x.1 := by
      have e2 : L = L.take i ++ g :: L.drop (i + 1) := by
        have := List.getElem_cons_drop (as := L) (i := i) hi
        rw [hg] at this
        rw [this, List.take_append_drop]
      rw [e2] at hL
      exact fun x hx => (List.pairwise_append.mp hL).2.2 x hx g List.mem_cons_self
    have et : L.take (i + 1) = L.take i ++ [g] := by
      rw [List.take_add_one, eg]
      rfl
    rw [settleL_take eg] at hr
    rw [et]
    rcases place_mem hr with q | ⟨s, hs, e, hle2⟩ | q
    · exact (ih r q).more fun x hx => List.mem_append_left _ hx
    · have hF := ih s hs
      subst e
      refine ⟨?_, fun j a e => ?_⟩
      · rw [List.pairwise_append]
        refine ⟨hF.1, List.pairwise_singleton _ _, fun x hx y hy => ?_⟩
        rw [List.mem_singleton.mp hy]
        obtain ⟨z, hz, rfl⟩ := hF.mem hx
        exact hle z hz
      · by_cases hj : j < s.length
        · rw [List.getElem?_append_left hj] at e
          obtain ⟨z, h1, h2⟩ := hF.2 j a e
          exact ⟨z, List.mem_append_left _ h1, h2⟩
        · rw [List.getElem?_append_right (by omega)] at e
          have hj0 : j - s.length = 0 := by
            have := (List.getElem?_eq_some_iff.mp e).1
            rw [List.length_singleton] at this
            omega
          rw [hj0] at e
          obtain rfl : g.1 = a := Option.some.inj e
          exact ⟨g, List.mem_append_right _ (List.mem_singleton.mpr rfl), rfl, by omega⟩
    · subst q
      refine ⟨List.pairwise_singleton _ _, fun j a e => ?_⟩
      have hj0 : j = 0 := by
        have := (List.getElem?_eq_some_iff.mp e).1
        rw [List.length_singleton] at this
        omega
      subst hj0
      obtain rfl : g.1 = a := Option.some.inj e
      exact ⟨g, List.mem_append_right _ (List.mem_singleton.mpr rfl), rfl, hp g hm⟩
theorem settle_fine {gs : List (Int × Int)} (f : Fit gs) {r : List Int} (hr : r ∈ settle gs) : Fine gs r := by
  have h := settleL_fine (byAge_sorted gs) f.byAge.pos (byAge gs).length (Nat.le_refl _) r (by rw [List.take_length]; exact hr)
  rw [List.take_length] at h
  exact h.more fun g hg => (byAge_perm gs).mem_iff.mp hg
theorem settle_calm {gs : List (Int × Int)} (f : Fit gs) {r : List Int} (hr : r ∈ settle gs) : eldUp gs r = none := by
  obtain ⟨h1, h2⟩ := settle_fine f hr
  unfold eldUp
  rw [← down_is (List.Perm.refl r) h1]
  refine upIn_none fun i a e => ?_
  obtain ⟨g, hg, rfl, hl⟩ := h2 i a e
  rw [pof_is f.nd hg]
  exact hl
theorem place_perm : ∀ (rs : List (List Int)) (a p : Int), (place rs a p).flatten.Perm (a :: rs.flatten)
  | [], a, p => List.Perm.refl _
  | r :: rs, a, p => by
    unfold place
    split
    · rw [List.flatten_cons, List.flatten_cons, List.append_assoc]
      exact List.perm_middle
    · rw [List.flatten_cons, List.flatten_cons]
      exact ((place_perm rs a p).append_left r).trans List.perm_middle
theorem foldl_place_perm : ∀ (L : List (Int × Int)) (rs : List (List Int)), (L.foldl (fun rs g => place rs g.1 g.2) rs).flatten.Perm (L.map (·.1) ++ rs.flatten)
  | [], rs => List.Perm.refl _
  | g :: L, rs => by
    rw [List.foldl_cons]
    refine (foldl_place_perm L _).trans (((place_perm rs g.1 g.2).append_left _).trans ?_)
    rw [List.map_cons, List.cons_append]
    exact List.perm_middle
theorem settle_flat (gs : List (Int × Int)) : (settle gs).flatten.Perm (gs.map (·.1)) := by
  have h := foldl_place_perm (byAge gs) []
  rw [List.flatten_nil, List.append_nil] at h
  exact h.trans ((byAge_perm gs).map _)
/-! ### those behind the first j rooms -/
theorem take_place_lt : ∀ (rs : List (List Int)) (a p : Int) (j : Nat), firstB rs p < j → (place rs a p).take j = place (rs.take j) a p
  | _, _, _, 0, h => absurd h (Nat.not_lt_zero _)
  | [], a, p, j + 1, _ => by
    rw [List.take_nil]
    unfold place
    rw [List.take_succ_cons, List.take_nil]
  | r :: rs, a, p, j + 1, h => by
    unfold firstB at h
    rw [List.take_succ_cons]
    unfold place
    split at h
    · rename_i q
      rw [if_pos q, if_pos q, List.take_succ_cons]
    · rename_i q
      rw [if_neg q, if_neg q, List.take_succ_cons, take_place_lt rs a p j (by omega)]
theorem take_place_ge : ∀ (rs : List (List Int)) (a p : Int) (j : Nat), j ≤ firstB rs p → (place rs a p).take j = rs.take j
  | _, _, _, 0, _ => by rw [List.take_zero, List.take_zero]
  | [], a, p, j + 1, h => absurd h (Nat.not_succ_le_zero _)
  | r :: rs, a, p, j + 1, h => by
    unfold firstB at h
    unfold place
    split at h
    · exact absurd h (Nat.not_succ_le_zero _)
    · rename_i q
      rw [if_neg q, List.take_succ_cons, List.take_succ_cons, take_place_ge rs a p j (by omega)]
theorem drop_place_lt : ∀ (rs : List (List Int)) (a p : Int) (j : Nat), firstB rs p < j → (place rs a p).drop j = rs.drop j
  | _, _, _, 0, h => absurd h (Nat.not_lt_zero _)
  | [], a, p, j + 1, _ => by
    unfold place
    rw [List.drop_succ_cons, List.drop_nil, List.drop_nil]
  | r :: rs, a, p, j + 1, h => by
    unfold firstB at h
    unfold place
    split at h
    · rename_i q
      rw [if_pos q, List.drop_succ_cons, List.drop_succ_cons]
    · rename_i q
      rw [if_neg q, List.drop_succ_cons, List.drop_succ_cons, drop_place_lt rs a p j (by omega)]
theorem drop_place_ge : ∀ (rs : List (List Int)) (a p : Int) (j : Nat), j ≤ firstB rs p → (place rs a p).drop j = place (rs.drop j) a p
  | _, _, _, 0, _ => by rw [List.drop_zero, List.drop_zero]
  | [], a, p, j + 1, h => absurd h (Nat.not_succ_le_zero _)
  | r :: rs, a, p, j + 1, h => by
    unfold firstB at h
    split at h
    · exact absurd h (Nat.not_succ_le_zero _)
    · rename_i q
      rw [List.drop_succ_cons]
      show (if (r.length : Int) ≤ p then (r ++ [a]) :: rs else r :: place rs a p).drop (j + 1) = _
      rw [if_neg q, List.drop_succ_cons, drop_place_ge rs a p j (by omega)]
def kept (j : Nat) : List (List Int) → List (Int × Int) → List (Int × Int)
  | _, [] => []
  | rs, g :: L => if firstB rs g.2 < j then g :: kept j (place rs g.1 g.2) L else kept j (place rs g.1 g.2) L
def gone (j : Nat) : List (List Int) → List (Int × Int) → List (Int × Int)
  | _, [] => []
  | rs, g :: L => if firstB rs g.2 < j then gone j (place rs g.1 g.2) L else g :: gone j (place rs g.1 g.2) L
theorem gone_sub (j : Nat) : ∀ (L : List (Int × Int)) (rs : List (List Int)), ∀ g ∈ gone j rs L, g ∈ L
  | [], _, g, h => h
  | x :: L, rs, g, h => by
    unfold gone at h
    split at h
    · exact List.mem_cons_of_mem _ (gone_sub j L _ g h)
    · rcases List.mem_cons.mp h with e | h
      · rw [e]
        exact List.mem_cons_self
      · exact List.mem_cons_of_mem _ (gone_sub j L _ g h)
theorem kept_settle (j : Nat) : ∀ (L : List (Int × Int)) (rs : List (List Int)), (kept j rs L).foldl (fun rs g => place rs g.1 g.2) (rs.take j) = (L.foldl (fun rs g => place rs g.1 g.2) rs).take j
  | [], _ => rfl
  | g :: L, rs => by
    rw [List.foldl_cons]
    unfold kept
    split
    · rename_i h
      rw [List.foldl_cons, ← take_place_lt rs g.1 g.2 j h]
      exact kept_settle j L _
    · rename_i h
      rw [← take_place_ge rs g.1 g.2 j (by omega)]
      exact kept_settle j L _
theorem gone_settle (j : Nat) : ∀ (L : List (Int × Int)) (rs : List (List Int)), ((L.foldl (fun rs g => place rs g.1 g.2) rs).drop j).flatten.Perm ((gone j rs L).map (·.1) ++ (rs.drop j).flatten)
  | [], _ => List.Perm.refl _
  | g :: L, rs => by
    rw [List.foldl_cons]
    refine (gone_settle j L _).trans ?_
    show ((gone j (place rs g.1 g.2) L).map (·.1) ++ _).Perm ((if firstB rs g.2 < j then gone j (place rs g.1 g.2) L else g :: gone j (place rs g.1 g.2) L).map (·.1) ++ _)
    split
    · rename_i h
      rw [drop_place_lt rs g.1 g.2 j h]
    · rename_i h
      rw [drop_place_ge rs g.1 g.2 j (by omega), List.map_cons, List.cons_append]
      exact ((place_perm (rs.drop j) g.1 g.2).append_left _).trans List.perm_middle
theorem kept_filter (j : Nat) : ∀ (L : List (Int × Int)) (rs : List (List Int)) (S : List Int), (L.map (·.1)).Nodup → (∀ g ∈ L, g.1 ∈ S ↔ g.1 ∈ (gone j rs L).map (·.1)) → L.filter (fun g => !decide (g.1 ∈ S)) = kept j rs L
  | [], _, _, _, _ => rfl
  | g :: L, rs, S, nd, h => by
    have nd' : (g.1 :: L.map (·.1)).Nodup := nd
    obtain ⟨n1, n2⟩ := List.nodup_cons.mp nd'
    have h0 := h g List.mem_cons_self
    unfold kept
    by_cases q : firstB rs g.2 < j
    · have eg : gone j rs (g :: L) = gone j (place rs g.1 g.2) L := by
        show (if _ then _ else _) = _
        rw [if_pos q]
      rw [eg] at h h0
      have ng : ¬ g.1 ∈ S := fun z => by
        obtain ⟨x, hx, e⟩ := List.mem_map.mp (h0.mp z)
        exact n1 (List.mem_map.mpr ⟨x, gone_sub j L _ x hx, e⟩)
      rw [if_pos q, List.filter_cons_of_pos (by simpa using ng), kept_filter j L _ S n2 fun x hx => h x (List.mem_cons_of_mem _ hx)]
    · have eg : gone j rs (g :: L) = g :: gone j (place rs g.1 g.2) L := by
        show (if _ then _ else _) = _
        rw [if_neg q]
      rw [eg] at h h0
      have ng : g.1 ∈ S := h0.mpr List.mem_cons_self
      rw [if_neg q, List.filter_cons_of_neg (by simpa using ng)]
      refine kept_filter j L _ S n2 fun x hx => ?_
      have hx1 := h x (List.mem_cons_of_mem _ hx)
      rw [hx1, List.map_cons, List.mem_cons]
      have ne : ¬ x.1 = g.1 := fun z => n1 (by rw [← z]; exact List.mem_map.mpr ⟨x, hx, rfl⟩)
      exact ⟨fun z => z.resolve_left ne, .inr⟩
theorem Fit.filter {gs : List (Int × Int)} (f : Fit gs) (k : Int × Int → Bool) : Fit (gs.filter k) :=
  ⟨f.nd.sublist (List.filter_sublist.map _), fun g hg => f.pos g (List.mem_filter.mp hg).1⟩
theorem byAge_filter {gs : List (Int × Int)} (f : Fit gs) (k : Int × Int → Bool) : byAge (gs.filter k) = (byAge gs).filter k :=
  (byAge_of (f.filter k) ((byAge_perm gs).filter k) ((byAge_sorted gs).sublist List.filter_sublist)).symm
theorem settle_left {gs : List (Int × Int)} (f : Fit gs) {S : List Int} {j : Nat} (h : ∀ a, a ∈ S ↔ a ∈ ((settle gs).drop j).flatten) : settle (gs.filter fun g => !decide (g.1 ∈ S)) = (settle gs).take j := by
  unfold settle
  rw [byAge_filter f]
  have hg := gone_settle j (byAge gs) []
  rw [List.drop_nil, List.flatten_nil, List.append_nil] at hg
  rw [kept_filter j (byAge gs) [] S f.byAge.nd fun g _ => (h g.1).trans hg.mem_iff]
  have := kept_settle j (byAge gs) []
  rw [List.take_nil] at this
  exact this
def sentAway (gs : List (Int × Int)) (j : Nat) : List Int := down ((settle gs).drop j).flatten
theorem sentAway_mem (gs : List (Int × Int)) (j : Nat) (a : Int) : a ∈ sentAway gs j ↔ a ∈ ((settle gs).drop j).flatten := (down_perm _).mem_iff
end El
namespace El
/-! ### one guest more -/
/-- b is s with one more put in -/
def Plus (s b : List Int) : Prop := ∃ (A : List Int) (m : Int) (B : List Int), s = A ++ B ∧ b = A ++ m :: B
/-- where s has g, b has m ahead -/
def Swap (s b : List Int) : Prop := ∃ (A : List Int) (m : Int) (B : List Int) (g : Int) (C : List Int), s = A ++ B ++ g :: C ∧ b = A ++ m :: B ++ C
def Alike (s b : List Int) : Prop := s = b ∨ Swap s b
theorem Plus.len {s b : List Int} (h : Plus s b) : b.length = s.length + 1 := by
  obtain ⟨A, m, B, rfl, rfl⟩ := h
  rw [List.length_append, List.length_append, List.length_cons]
  omega
theorem Alike.len {s b : List Int} (h : Alike s b) : b.length = s.length := by
  rcases h with rfl | ⟨A, m, B, g, C, rfl, rfl⟩
  · rfl
  · simp only [List.length_append, List.length_cons]
    omega
theorem Plus.snoc {s b : List Int} (h : Plus s b) (a : Int) : Plus (s ++ [a]) (b ++ [a]) := by
  obtain ⟨A, m, B, rfl, rfl⟩ := h
  exact ⟨A, m, B ++ [a], by rw [List.append_assoc], by rw [List.append_assoc]; rfl⟩
theorem Alike.snoc {s b : List Int} (h : Alike s b) (a : Int) : Alike (s ++ [a]) (b ++ [a]) := by
  rcases h with rfl | ⟨A, m, B, g, C, rfl, rfl⟩
  · exact .inl rfl
  · exact .inr ⟨A, m, B, g, C ++ [a], by simp only [List.append_assoc, List.cons_append], by simp only [List.append_assoc, List.cons_append]⟩
inductive Near : List (List Int) → List (List Int) → Prop
  | new (m : Int) : Near [] [[m]]
  | here {s b : List Int} (h : Plus s b) (rest : List (List Int)) : Near (s :: rest) (b :: rest)
  | skip {s b : List Int} {ss bs : List (List Int)} (h : Alike s b) (r : Near ss bs) : Near (s :: ss) (b :: bs)
theorem Near.place (rs : List (List Int)) (a p : Int) : Near rs (El.place rs a p) := by
  induction rs with
  | nil => exact .new a
  | cons r rs ih =>
    unfold El.place
    split
    · exact .here ⟨r, a, [], by simp, rfl⟩ rs
    · exact .skip (.inl rfl) ih
theorem Near.step {s b : List (List Int)} (h : Near s b) (a p : Int) (hp : 0 ≤ p) : Near (El.place s a p) (El.place b a p) := by
  induction h with
  | new m =>
    unfold El.place
    split
    · exact .here (s := [a]) (b := [m] ++ [a]) ⟨[], m, [a], rfl, rfl⟩ []
    · refine .skip (.inr ⟨[], m, [], a, [], rfl, rfl⟩) ?_
      exact .new a
  | @here s b hb rest =>
    have hl := hb.len
    unfold El.place
    by_cases h1 : (s.length : Int) ≤ p
    · rw [if_pos h1]
      by_cases h2 : (b.length : Int) ≤ p
      · rw [if_pos h2]
        exact .here (hb.snoc a) rest
      · rw [if_neg h2]
        obtain ⟨A, m, B, rfl, rfl⟩ := hb
        exact .skip (.inr ⟨A, m, B, a, [], rfl, by simp⟩) (Near.place rest a p)
    · rw [if_neg h1, if_neg (by omega)]
      exact .here hb _
  | @skip s b ss bs hs r ih =>
    have hl := hs.len
    unfold El.place
    by_cases h1 : (s.length : Int) ≤ p
    · rw [if_pos h1, if_pos (by omega)]
      exact .skip (hs.snoc a) r
    · rw [if_neg h1, if_neg (by omega)]
      exact .skip hs ih
theorem Near.fold {s b : List (List Int)} (h : Near s b) : ∀ (gs : List (Int × Int)), (∀ g ∈ gs, 0 ≤ g.2) → Near (gs.foldl (fun rs g => El.place rs g.1 g.2) s) (gs.foldl (fun rs g => El.place rs g.1 g.2) b)
  | [], _ => h
  | g :: gs, hp => by
    rw [List.foldl_cons, List.foldl_cons]
    exact Near.fold (h.step g.1 g.2 (hp g List.mem_cons_self)) gs fun x hx => hp x (List.mem_cons_of_mem _ hx)
/-- the order with one more -/
theorem byAge_split {gs : List (Int × Int)} {x : Int × Int} (f : Fit (x :: gs)) : ∃ pre post, byAge (x :: gs) = pre ++ x :: post ∧ byAge gs = pre ++ post := by
  have hx : x ∈ byAge (x :: gs) := (byAge_perm _).mem_iff.mpr List.mem_cons_self
  obtain ⟨pre, post, e⟩ := List.append_of_mem hx
  refine ⟨pre, post, e, ?_⟩
  have fg : Fit gs := ⟨(List.nodup_cons.mp f.nd).2, fun g hg => f.pos g (List.mem_cons_of_mem _ hg)⟩
  refine (byAge_of fg ?_ ?_).symm
  · have p : (pre ++ x :: post).Perm (x :: gs) := e ▸ byAge_perm (x :: gs)
    exact List.Perm.cons_inv (List.perm_middle.symm.trans p)
  · have s := byAge_sorted (x :: gs)
    rw [e] at s
    rw [List.pairwise_append] at s ⊢
    obtain ⟨s1, s2, s3⟩ := s
    exact ⟨s1, (List.pairwise_cons.mp s2).2, fun a ha b hb => s3 a ha b (List.mem_cons_of_mem _ hb)⟩
theorem settle_near {gs : List (Int × Int)} {x : Int × Int} (f : Fit (x :: gs)) : Near (settle gs) (settle (x :: gs)) := by
  obtain ⟨pre, post, e1, e2⟩ := byAge_split f
  unfold settle settleL
  rw [e1, e2, List.foldl_append, List.foldl_append, List.foldl_cons]
  exact (Near.place _ x.1 x.2).fold post fun g hg => f.pos g ((byAge_perm _).mem_iff.mp (by rw [e1]; exact List.mem_append_right _ (List.mem_cons_of_mem _ hg)))
/-- sizes: one room one fuller -/
def bump (L : List Int) (d : Nat) : List Int := if d < L.length then L.set d (L.getD d 0 + 1) else L ++ [1]
theorem bump_cons (x : Int) (L : List Int) (d : Nat) : bump (x :: L) (d + 1) = x :: bump L d := by
  unfold bump
  by_cases h : d < L.length
  · rw [if_pos h, if_pos (by rw [List.length_cons]; omega)]
    rfl
  · rw [if_neg h, if_neg (by rw [List.length_cons]; omega)]
    rfl
theorem Near.sizes {s b : List (List Int)} (h : Near s b) : ∃ d, d ≤ s.length ∧ b.map (fun r => (r.length : Int)) = bump (s.map fun r => (r.length : Int)) d := by
  induction h with
  | new m => exact ⟨0, Nat.le_refl _, rfl⟩
  | @here s b hb rest =>
    refine ⟨0, Nat.zero_le _, ?_⟩
    have hl := hb.len
    show ((b.length : Int) :: rest.map fun r => (r.length : Int)) = ((s.length : Int) + 1) :: rest.map fun r => (r.length : Int)
    rw [hl]
    rfl
  | @skip s b ss bs hs r ih =>
    obtain ⟨d, hd, e⟩ := ih
    refine ⟨d + 1, by rw [List.length_cons]; omega, ?_⟩
    rw [List.map_cons, List.map_cons, bump_cons, e, hs.len]
theorem bump_length (L : List Int) {d : Nat} : (bump L d).length = if d < L.length then L.length else L.length + 1 := by
  unfold bump
  split
  · rw [List.length_set]
  · rw [List.length_append]
    rfl
theorem bump_at (L : List Int) {d k : Nat} (hd : d ≤ L.length) (hk : k < (bump L d).length) : (bump L d)[k]? = some (L.getD k 0 + if k = d then 1 else 0) := by
  rw [bump_length] at hk
  unfold bump
  by_cases h : d < L.length
  · rw [if_pos h] at hk ⊢
    by_cases e : k = d
    · subst e
      rw [List.getElem?_set_self hk, if_pos rfl]
    · rw [List.getElem?_set_ne (fun z => e z.symm), if_neg e, Int.add_zero, List.getElem?_eq_getElem hk, List.getD_eq_getElem?_getD, List.getElem?_eq_getElem hk]
      rfl
  · rw [if_neg h] at hk ⊢
    have hd' : d = L.length := by omega
    subst hd'
    by_cases e : k = L.length
    · subst e
      rw [List.getElem?_append_right (Nat.le_refl _), Nat.sub_self, if_pos rfl, List.getD_eq_getElem?_getD, List.getElem?_eq_none (Nat.le_refl _)]
      rfl
    · have hk' : k < L.length := by omega
      rw [List.getElem?_append_left hk', if_neg e, Int.add_zero, List.getElem?_eq_getElem hk', List.getD_eq_getElem?_getD, List.getElem?_eq_getElem hk']
      rfl
end El
namespace El
/-! ### somebody comes: from room to room -/
/-- who is kept in a room with n inside, of those who come one after another -/
def g0 : Nat → List (Int × Int) → List (Int × Int)
  | _, [] => []
  | n, g :: L => if (n : Int) ≤ g.2 then g :: g0 (n + 1) L else g0 n L
/-- who goes on -/
def r0 : Nat → List (Int × Int) → List (Int × Int)
  | _, [] => []
  | n, g :: L => if (n : Int) ≤ g.2 then r0 (n + 1) L else g :: r0 n L
theorem g0_yes {n : Nat} {g : Int × Int} {L : List (Int × Int)} (h : (n : Int) ≤ g.2) : g0 n (g :: L) = g :: g0 (n + 1) L := if_pos h
theorem g0_no {n : Nat} {g : Int × Int} {L : List (Int × Int)} (h : ¬ (n : Int) ≤ g.2) : g0 n (g :: L) = g0 n L := if_neg h
theorem r0_yes {n : Nat} {g : Int × Int} {L : List (Int × Int)} (h : (n : Int) ≤ g.2) : r0 n (g :: L) = r0 (n + 1) L := if_pos h
theorem r0_no {n : Nat} {g : Int × Int} {L : List (Int × Int)} (h : ¬ (n : Int) ≤ g.2) : r0 n (g :: L) = g :: r0 n L := if_neg h
theorem fold_first : ∀ (L : List (Int × Int)) (r : List Int) (rs : List (List Int)), L.foldl (fun rs g => place rs g.1 g.2) (r :: rs) = (r ++ (g0 r.length L).map (·.1)) :: (r0 r.length L).foldl (fun rs g => place rs g.1 g.2) rs
  | [], r, rs => by
    show r :: rs = (r ++ []) :: rs
    rw [List.append_nil]
  | g :: L, r, rs => by
    rw [List.foldl_cons]
    by_cases h : (r.length : Int) ≤ g.2
    · have e : place (r :: rs) g.1 g.2 = (r ++ [g.1]) :: rs := by
        unfold place
        rw [if_pos h]
      rw [e, fold_first L, List.length_append, List.length_singleton]
      rw [g0_yes h, r0_yes h, List.map_cons, List.append_assoc]
      rfl
    · have e : place (r :: rs) g.1 g.2 = r :: place rs g.1 g.2 := by
        unfold place
        rw [if_neg h]
        cases rs <;> rfl
      rw [e, fold_first L]
      rw [g0_no h, r0_no h, List.foldl_cons]
/-- the first room, and the rooms of those who go on -/
theorem settle_first {L : List (Int × Int)} (hn : L ≠ []) (hp : ∀ g ∈ L, 0 ≤ g.2) : settleL L = (g0 0 L).map (·.1) :: settleL (r0 0 L) := by
  cases L with
  | nil => exact absurd rfl hn
  | cons g L =>
    have h0 : ((0 : Nat) : Int) ≤ g.2 := hp g (.head _)
    have e := fold_first L [g.1] []
    unfold settleL
    rw [List.foldl_cons]
    show L.foldl _ [[g.1]] = _
    rw [e, g0_yes h0, r0_yes h0]
    rfl
theorem g0_app : ∀ (A B : List (Int × Int)) (n : Nat), g0 n (A ++ B) = g0 n A ++ g0 (n + (g0 n A).length) B
  | [], B, n => rfl
  | g :: A, B, n => by
    rw [List.cons_append]
    by_cases h : (n : Int) ≤ g.2
    · rw [g0_yes h, g0_yes h, g0_app A B (n + 1), List.cons_append, List.length_cons, Nat.add_assoc, Nat.add_comm 1]
    · rw [g0_no h, g0_no h, g0_app A B n]
theorem r0_app : ∀ (A B : List (Int × Int)) (n : Nat), r0 n (A ++ B) = r0 n A ++ r0 (n + (g0 n A).length) B
  | [], B, n => rfl
  | g :: A, B, n => by
    rw [List.cons_append]
    by_cases h : (n : Int) ≤ g.2
    · rw [r0_yes h, r0_yes h, g0_yes h, r0_app A B (n + 1), List.length_cons, Nat.add_assoc, Nat.add_comm 1]
    · rw [r0_no h, r0_no h, g0_no h, r0_app A B n, List.cons_append]
/-- one more inside: nobody gives way, or one does, and all is as before from there on -/
theorem one_gives : ∀ (L : List (Int × Int)) (n : Nat), (g0 (n + 1) L = g0 n L ∧ r0 (n + 1) L = r0 n L ∧ ∀ i g, (g0 n L)[i]? = some g → ((n + 1 + i : Nat) : Int) ≤ g.2) ∨
    ∃ L1 y L2, L = L1 ++ y :: L2 ∧ g0 (n + 1) L1 = g0 n L1 ∧ r0 (n + 1) L1 = r0 n L1 ∧ (∀ i g, (g0 n L1)[i]? = some g → ((n + 1 + i : Nat) : Int) ≤ g.2) ∧ y.2 = ((n + (g0 n L1).length : Nat) : Int)
  | [], n => .inl ⟨rfl, rfl, fun i g e => by cases e⟩
  | g :: L, n => by
    by_cases h : (n : Int) ≤ g.2
    · by_cases h1 : ((n + 1 : Nat) : Int) ≤ g.2
      · rcases one_gives L (n + 1) with ⟨a, b, c⟩ | ⟨L1, y, L2, rfl, a, b, c, d⟩
        · refine .inl ⟨?_, ?_, fun i x e => ?_⟩
          · rw [g0_yes h, g0_yes h1, a]
          · rw [r0_yes h, r0_yes h1, b]
          · rw [g0_yes h] at e
            cases i with
            | zero => cases e; exact h1
            | succ i =>
              have := c i x e
              omega
        · refine .inr ⟨g :: L1, y, L2, rfl, ?_, ?_, fun i x e => ?_, ?_⟩
          · rw [g0_yes h, g0_yes h1, a]
          · rw [r0_yes h, r0_yes h1, b]
          · rw [g0_yes h] at e
            cases i with
            | zero => cases e; exact h1
            | succ i =>
              have := c i x e
              omega
          · rw [g0_yes h, List.length_cons, d]
            omega
      · exact .inr ⟨[], g, L, rfl, rfl, rfl, (fun i x e => by cases e), by show g.2 = ((n + 0 : Nat) : Int); omega⟩
    · have h1 : ¬ ((n + 1 : Nat) : Int) ≤ g.2 := by omega
      rcases one_gives L n with ⟨a, b, c⟩ | ⟨L1, y, L2, rfl, a, b, c, d⟩
      · refine .inl ⟨?_, ?_, fun i x e => ?_⟩
        · rw [g0_no h, g0_no h1, a]
        · rw [r0_no h, r0_no h1, b]
        · rw [g0_no h] at e
          exact c i x e
      · refine .inr ⟨g :: L1, y, L2, rfl, ?_, ?_, fun i x e => ?_, ?_⟩
        · rw [g0_no h, g0_no h1, a]
        · rw [r0_no h, r0_no h1, b]
        · rw [g0_no h] at e
          exact c i x e
        · rw [g0_no h]
          exact d
theorem g0_fine : ∀ (L : List (Int × Int)) (n i : Nat) (g : Int × Int), (g0 n L)[i]? = some g → ((n + i : Nat) : Int) ≤ g.2
  | [], _, _, _, e => by cases e
  | x :: L, n, i, g, e => by
    by_cases h : (n : Int) ≤ x.2
    · rw [g0_yes h] at e
      cases i with
      | zero => cases e; exact h
      | succ i =>
        have := g0_fine L (n + 1) i g e
        omega
    · rw [g0_no h] at e
      exact g0_fine L n i g e
theorem g0_sub : ∀ (L : List (Int × Int)) (n : Nat), (g0 n L).Sublist L
  | [], _ => .slnil
  | x :: L, n => by
    by_cases h : (n : Int) ≤ x.2
    · rw [g0_yes h]
      exact (g0_sub L (n + 1)).cons₂ x
    · rw [g0_no h]
      exact (g0_sub L n).cons x
theorem r0_sub : ∀ (L : List (Int × Int)) (n : Nat), (r0 n L).Sublist L
  | [], _ => .slnil
  | x :: L, n => by
    by_cases h : (n : Int) ≤ x.2
    · rw [r0_yes h]
      exact (r0_sub L (n + 1)).cons x
    · rw [r0_no h]
      exact (r0_sub L n).cons₂ x
/-- x comes among those of L, at its age's place -/
def Comes (x : Int × Int) (L L' : List (Int × Int)) : Prop := ∃ pre post, L = pre ++ post ∧ L' = pre ++ x :: post
/-- a room that x enters: either all bear it, and it is the room; or the first who does not is y, who goes on -/
theorem enters {x : Int × Int} {L L' : List (Int × Int)} (h : Comes x L L') (down' : L'.Pairwise fun g h => h.1 < g.1) :
    ∃ E : List (Int × Int), E.Perm (x :: g0 0 L) ∧ E.Pairwise (fun g h => h.1 < g.1) ∧
      (((∀ (j : Nat) (g : Int × Int), E[j]? = some g → (j : Int) ≤ g.2) ∧ g0 0 L' = E ∧ r0 0 L' = r0 0 L) ∨
        ∃ (i : Nat) (y : Int × Int), E[i]? = some y ∧ (∀ (j : Nat) (g : Int × Int), j < i → E[j]? = some g → (j : Int) ≤ g.2) ∧ y.2 < (i : Int) ∧ g0 0 L' = E.eraseIdx i ∧ Comes y (r0 0 L) (r0 0 L')) := by
  obtain ⟨pre, post, rfl, rfl⟩ := h
  have eg := g0_app pre post 0
  have er := r0_app pre post 0
  have eg' := g0_app pre (x :: post) 0
  have er' := r0_app pre (x :: post) 0
  rw [Nat.zero_add] at eg er eg' er'
  generalize hA : g0 0 pre = A at eg er eg' er'
  have fineA : ∀ (j : Nat) (g : Int × Int), A[j]? = some g → (j : Int) ≤ g.2 := fun j g e => by
    rw [← hA] at e
    have := g0_fine pre 0 j g e
    omega
  have subA : A.Sublist pre := hA ▸ g0_sub pre 0
  refine ⟨A ++ x :: g0 A.length post, ?_, down'.sublist (subA.append ((g0_sub post A.length).cons₂ x)), ?_⟩
  · rw [eg]
    exact List.perm_middle
  · by_cases hx : (A.length : Int) ≤ x.2
    · rw [eg', er', g0_yes hx, r0_yes hx, er]
      rcases one_gives post A.length with ⟨a, b, c⟩ | ⟨L1, y, L2, rfl, a, b, c, d⟩
      · refine .inl ⟨fun j g e => ?_, by rw [a], by rw [b]⟩
        by_cases hj : j < A.length
        · rw [List.getElem?_append_left hj] at e
          exact fineA j g e
        · rw [List.getElem?_append_right (by omega)] at e
          cases hd : j - A.length with
          | zero =>
            rw [hd] at e
            cases e
            omega
          | succ k =>
            rw [hd] at e
            have := c k g e
            omega
      · have d1 : ((A.length + (g0 A.length L1).length : Nat) : Int) ≤ y.2 := by omega
        have d2 : ¬ ((A.length + 1 + (g0 (A.length + 1) L1).length : Nat) : Int) ≤ y.2 := by rw [a]; omega
        have eold : g0 A.length (L1 ++ y :: L2) = g0 A.length L1 ++ y :: g0 (A.length + (g0 A.length L1).length + 1) L2 := by rw [g0_app, g0_yes d1]
        have enew : g0 (A.length + 1) (L1 ++ y :: L2) = g0 A.length L1 ++ g0 (A.length + (g0 A.length L1).length + 1) L2 := by
          rw [g0_app, g0_no d2, a]
          congr 2
          omega
        have rold : r0 A.length (L1 ++ y :: L2) = r0 A.length L1 ++ r0 (A.length + (g0 A.length L1).length + 1) L2 := by rw [r0_app, r0_yes d1]
        have rnew : r0 (A.length + 1) (L1 ++ y :: L2) = r0 A.length L1 ++ y :: r0 (A.length + (g0 A.length L1).length + 1) L2 := by
          rw [r0_app, r0_no d2, a, b]
          congr 3
          omega
        rw [eold, enew, rold, rnew]
        refine .inr ⟨A.length + 1 + (g0 A.length L1).length, y, ?_, fun j g hj e => ?_, by omega, ?_, r0 0 pre ++ r0 A.length L1, r0 (A.length + (g0 A.length L1).length + 1) L2, by rw [List.append_assoc], by rw [List.append_assoc]⟩
        · rw [List.getElem?_append_right (by omega), show A.length + 1 + (g0 A.length L1).length - A.length = (g0 A.length L1).length + 1 by omega, List.getElem?_cons_succ, List.getElem?_append_right (Nat.le_refl _), Nat.sub_self]
          rfl
        · by_cases h1 : j < A.length
          · rw [List.getElem?_append_left h1] at e
            exact fineA j g e
          · rw [List.getElem?_append_right (by omega)] at e
            cases hd : j - A.length with
            | zero =>
              rw [hd] at e
              cases e
              omega
            | succ k =>
              rw [hd, List.getElem?_cons_succ, List.getElem?_append_left (by omega)] at e
              have := c k g e
              omega
        · rw [List.eraseIdx_append_of_length_le (by omega), show A.length + 1 + (g0 A.length L1).length - A.length = (g0 A.length L1).length + 1 by omega, List.eraseIdx_cons_succ, List.eraseIdx_append_of_length_le (Nat.le_refl _), Nat.sub_self]
          rfl
    · rw [eg', er', g0_no hx, r0_no hx, er]
      refine .inr ⟨A.length, x, ?_, fun j g hj e => ?_, by omega, ?_, r0 0 pre, r0 A.length post, rfl, rfl⟩
      · rw [List.getElem?_append_right (Nat.le_refl _), Nat.sub_self]
        rfl
      · rw [List.getElem?_append_left hj] at e
        exact fineA j g e
      · rw [List.eraseIdx_append_of_length_le (Nat.le_refl _), Nat.sub_self]
        rfl
theorem map_erase0' {α β : Type} (f : α → β) : ∀ (l : List α) (k : Nat), (l.map f).eraseIdx k = (l.eraseIdx k).map f
  | [], _ => rfl
  | _ :: _, 0 => rfl
  | a :: l, k + 1 => by
    rw [List.map_cons, List.eraseIdx_cons_succ, List.eraseIdx_cons_succ, List.map_cons, map_erase0' f l k]
/-- who is in the first room -/
def roomOf (L : List (Int × Int)) : List Int := (g0 0 L).map (·.1)
theorem settle_parts {L : List (Int × Int)} (hp : ∀ g ∈ L, 0 ≤ g.2) : settleL L = if L = [] then [] else roomOf L :: settleL (r0 0 L) := by
  by_cases h : L = []
  · rw [if_pos h, h]
    rfl
  · rw [if_neg h]
    exact settle_first h hp
theorem erase_at : ∀ {l : List Int} {i : Nat} {a : Int}, l.Nodup → l[i]? = some a → l.erase a = l.eraseIdx i
  | x :: l, 0, a, _, e => by
    obtain rfl : x = a := Option.some.inj e
    rw [List.erase_cons_head]
    rfl
  | x :: l, i + 1, a, nd, e => by
    rw [List.nodup_cons] at nd
    have m : a ∈ l := List.mem_of_getElem? (i := i) (by simpa using e)
    have ne : x ≠ a := fun z => nd.1 (z ▸ m)
    rw [List.erase_cons_tail (by simpa using ne), List.eraseIdx_cons_succ, erase_at nd.2 (by simpa using e)]
/-- somebody enters the first room of those of L -/
theorem come_step {gs : List (Int × Int)} (F : Fit gs) {x : Int × Int} {L L' : List (Int × Int)} (h : Comes x L L') (sub : L'.Sublist (byAge gs)) :
    ∃ E : List Int, E.Perm (x.1 :: roomOf L) ∧ E.Pairwise (· > ·) ∧
      ((eldUp gs E = none ∧ settleL L' = E :: settleL (r0 0 L)) ∨ ∃ y, y ∈ L' ∧ y.1 ∈ E ∧ eldUp gs E = some y.1 ∧ settleL L' = E.erase y.1 :: settleL (r0 0 L') ∧ Comes y (r0 0 L) (r0 0 L')) := by
  have desc : (byAge gs).Pairwise fun g h => h.1 < g.1 := by
    have h1 := byAge_sorted gs
    have h2 : (byAge gs).Pairwise fun g h => g.1 ≠ h.1 := by
      have := ((byAge_perm gs).map (·.1)).nodup_iff.mpr F.nd
      rw [List.Nodup, List.pairwise_map] at this
      exact this
    exact (h1.and h2).imp fun h => by omega
  have mem : ∀ g ∈ L', g ∈ gs := fun g m => (byAge_perm gs).mem_iff.mp (sub.subset m)
  have ne : L' ≠ [] := by
    obtain ⟨pre, post, _, rfl⟩ := h
    simp
  have first := settle_first ne fun g m => F.pos g (mem g m)
  have subL : L.Sublist L' := by
    obtain ⟨pre, post, rfl, rfl⟩ := h
    exact (List.Sublist.refl pre).append (List.sublist_cons_self x post)
  have xm : x ∈ L' := by
    obtain ⟨pre, post, _, rfl⟩ := h
    simp
  obtain ⟨E, pE, dE, out⟩ := enters h (desc.sublist sub)
  have inL : ∀ g ∈ E, g ∈ L' := fun g m => by
    rcases List.mem_cons.mp (pE.mem_iff.mp m) with rfl | m
    · exact xm
    · exact subL.subset ((g0_sub L 0).subset m)
  have dE' : (E.map (·.1)).Pairwise (· > ·) := by
    rw [List.pairwise_map]
    exact dE.imp fun h => h
  have nd : (E.map (·.1)).Nodup := dE'.imp fun h => by omega
  have isDown : down (E.map (·.1)) = E.map (·.1) := (down_is (.refl _) (dE'.imp fun h => by omega)).symm
  have pofE : ∀ g ∈ E, pof gs g.1 = g.2 := fun g m => pof_is F.nd (mem g (inL g m))
  refine ⟨E.map (·.1), pE.map _, dE', ?_⟩
  rcases out with ⟨fine, e1, e2⟩ | ⟨i, y, ey, fine, bad, e1, e2⟩
  · refine .inl ⟨?_, by rw [first, e1, e2]⟩
    unfold eldUp
    rw [isDown]
    refine upIn_none fun j a e => ?_
    rw [List.getElem?_map] at e
    obtain ⟨g, eg, rfl⟩ := Option.map_eq_some_iff.mp e
    rw [pofE g (List.mem_of_getElem? eg)]
    exact fine j g eg
  · have ym := List.mem_of_getElem? ey
    refine .inr ⟨y, inL y ym, List.mem_map_of_mem ym, ?_, ?_, e2⟩
    · unfold eldUp
      rw [isDown]
      refine upIn_at (i := i) (by rw [List.getElem?_map, ey]; rfl) (fun j a hj e => ?_) (by rw [pofE y ym]; omega)
      rw [List.getElem?_map] at e
      obtain ⟨g, eg, rfl⟩ := Option.map_eq_some_iff.mp e
      rw [pofE g (List.mem_of_getElem? eg)]
      exact fine j g hj eg
    · rw [first, e1, erase_at nd (by rw [List.getElem?_map, ey]; rfl)]
      congr 1
      exact (map_erase0' (·.1) E i).symm
end El
namespace El
open PySem PySem.Spec PyProof.Rows L2
/-! ### a def of the text as callers see it -/
structure Df (P : Program) (w : World) (K : PySem.W.Frag) (mg : Str → Option Value) (base : Heap) (k : Nat) (x : Str) (ps : List Str) (st : Stmt) (sp : Sp) : Prop where
  ex : ∃ (f : Addr) (fd : FuncData), Fun K x x st f fd ∧ mg x = some (.ref f) ∧ FnOk P w K mg base CX0 k f fd ps sp ∧ Binds K fd ps []
/-- where a def stands -/
structure At (K : PySem.W.Frag) (mg : Str → Option Value) (x : Str) (ps : List Str) (st : Stmt) : Prop where
  ex : ∃ (f : Addr) (fd : FuncData), Fun K x x st f fd ∧ mg x = some (.ref f) ∧ Binds K fd ps []
theorem At.df {P : Program} {w : World} {K : PySem.W.Frag} {mg : Str → Option Value} {base : Heap} {k : Nat} {x : Str} {ps : List Str} {st : Stmt} {sp : Sp} (A : At K mg x ps st)
    (h : ∀ f fd, Fun K x x st f fd → FnOk P w K mg base CX0 k f fd ps sp) : Df P w K mg base k x ps st sp := by
  obtain ⟨f, fd, F, m, b⟩ := A.ex
  exact ⟨f, fd, F, m, h f fd F, b⟩
section
variable {X : Cx} {k : Nat} {x : Str} {ps : List Str} {st : Stmt} {sp : Sp} {p pos : Pos} {e : Expr} {es : List Expr} {kws : List Keyword} {t tk : TA}
theorem pe_df (D : Df X.prog X.w X.K X.mg X.base k x ps st sp) (hr : Room k X.A) (hg : Gl X x) (ha : PA X (e :: es) t) (hdb : (x == ("__debug__" : Str)) = false := by decide)
    (he : starEach (e :: es) X.env = (false, eval e X.env) :: starEach es X.env := by rfl) (hpl : (backTo pos (starEach es X.env)).any (·.1) = false := by rfl) : PE X (.Call (.Name x p) (e :: es) [] pos) (tCall sp [] E0 t) := by
  obtain ⟨f, fd, F, m, G, b⟩ := D.ex
  exact pe_call G hr hg m F.kp b .nil pass0 ha hdb he hpl
theorem pe_df0 (D : Df X.prog X.w X.K X.mg X.base k x ps st sp) (hr : Room k X.A) (hg : Gl X x) (hdb : (x == ("__debug__" : Str)) = false := by decide) : PE X (.Call (.Name x p) [] [] pos) (tCall sp [] E0 tNil) := by
  obtain ⟨f, fd, F, m, G, b⟩ := D.ex
  exact pe_call0 G hr hg m F.kp b .nil pass0 hdb
def tCallW (n : Nat) (sp : Sp) (g : List V → List V) (tk : TA) : TE := fun σ H Q => tk σ H fun zs H2 => zs.length = n ∧ sp (g zs) H2 Q E0
/-- f(k = v, ..): keywords alone -/
theorem pe_dfK (D : Df X.prog X.w X.K X.mg X.base k x ps st sp) (ks : List Str) (g : {α : Type} → List α → List α) (hr : Room k X.A) (hg : Gl X x) (hkw : PK X kws tk)
    (hb : ∀ (kV doc pm : Value) (an : Option Addr) (cdv ct : Value) (ws : List Value), ws.length = ks.length → bindArgs (PySem.W.fnOf x x (defArgs st) (defBody st) (defScope st) .none kV doc pm an cdv ct) ⟨[], ks.zip ws⟩ = pure (ps.zip (g ws)))
    (hrel : ∀ {zs : List V} {ws : List Value}, Vals zs ws → Vals (g zs) (g ws))
    (hall : (backToKw pos (keywordEach kws X.env)).all (·.1.isSome) = true := by rfl) (hks : (backToKw pos (keywordEach kws X.env)).filterMap (·.1) = ks := by rfl) (hdb : (x == ("__debug__" : Str)) = false := by decide)
    (hpl : ((backTo pos (starEach [] X.env)).any (·.1) || (backToKw pos (keywordEach kws X.env)).any (·.1.isNone)) = false := by rfl) :
    PE X (.Call (.Name x p) [] kws pos) (tCallW ks.length sp (fun zs => g zs) tk) := by
  obtain ⟨f, fd, F, m, G, b⟩ := D.ex
  have kp := F.kp
  have KB : KBn X.K fd ps 0 ks (fun us ws => us ++ g ws) (fun vs zs => vs ++ g zs) := by
    obtain ⟨oc, od, kV, doc, pm, an, cdv, ct, osl, rfl, lk, hcd⟩ := F.ex
    refine ⟨fun s us ws hK l1 l2 => ?_, fun {vs us zs ws} r rz => Vals.append r (hrel rz)⟩
    obtain rfl := List.eq_nil_of_length_eq_zero l1
    exact .of_eq (hb kV doc pm an cdv ct ws l2)
  refine ⟨fun pins s σ H Q I h => ?_⟩
  refine wpAny_Call_Name_kw (ld_glob I hg m ?_ hdb)
  refine PySem.W.callWith_KW0 (h₀ := X.base) I.ok.mod.kin kp hall ?_ hpl
  refine thn (hkw.run pos pins s σ H _ I h) fun ws s2 ⟨zs, H2, I2, rz, l2, q2⟩ => ⟨I2.kIn, ?_⟩
  rw [hks]
  exact run_fnN (us := []) (vs := []) G hr KB pass0 I2 .nil rz rfl l2 q2
end
theorem Df.at {P : Program} {w : World} {K : PySem.W.Frag} {mg : Str → Option Value} {base : Heap} {k : Nat} {x : Str} {ps : List Str} {st : Stmt} {sp : Sp} {fa : Addr} {fd : FuncData} {oc : Value} {od : Option Addr} {sl : Array (Option Value)}
    (D : Df P w K mg base k x ps st sp) (hf : mg x = some (.ref fa)) (l : K.lookup fa = some ⟨oc, od, .func fd, sl⟩) : FnOk P w K mg base CX0 k fa fd ps sp := by
  obtain ⟨f, fd', F, m, G, b⟩ := D.ex
  obtain rfl : fa = f := by
    have e := hf.symm.trans m
    injection e with e
    injection e
  obtain ⟨oc', od', kV, doc, pm, an, cdv, ct, osl, e1, lk, hcd⟩ := F.ex
  have e := l.symm.trans lk
  injection e with e
  injection e with _ _ e _
  injection e with e
  rw [e]
  exact G
theorem At.mk' {K : PySem.W.Frag} {mg : Str → Option Value} {h : Heap} {x : Str} {ps : List Str} {st : Stmt} {f : Addr} {oc : Value} {od an : Option Addr} {osl : Array (Option Value)} {kV doc pm cdv ct : Value} (X : K.In h) (G : h.Ns mainGlobals mg)
    (a : PySem.W.nsIn K mainGlobals x = some (some (.ref f))) (l : K.lookup f = some ⟨oc, od, .func (PySem.W.fnOf x x (defArgs st) (defBody st) (defScope st) .none kV doc pm an cdv ct), osl⟩)
    (c : PySem.W.codeIn K cdv x = true) (k : PySem.W.keepIn K (.ref f) = true)
    (b : ∀ (kV doc pm : Value) (an : Option Addr) (cdv ct : Value) (us : List Value), us.length = ps.length → bindArgs (PySem.W.fnOf x x (defArgs st) (defBody st) (defScope st) .none kV doc pm an cdv ct) ⟨us, []⟩ = pure (ps.zip us)) : At K mg x ps st :=
  have F := fun_mk (st := st) l c k
  ⟨f, _, F, PySem.W.mg_of X G a, F.binds b⟩
end El
namespace El
open PySem PySem.Spec PyProof.Rows L2
section
variable {X : Cx}
/-! sorted(..., reverse=b) of anything whose walk is known -/
/-- partners: each pair is something of ours and the value that stands for it -/
abbrev Partners (P : List (V × Value)) : Prop := ∀ p ∈ P, RelV p.1 p.2
theorem partners_of : ∀ {xs : List V} {us : List Value}, Vals xs us → ∃ P, Partners P ∧ P.map Prod.fst = xs ∧ P.map Prod.snd = us
  | _, _, .nil => ⟨[], fun _ m => (List.not_mem_nil m).elim, rfl, rfl⟩
  | _, _, .cons h t =>
    let ⟨P, hP, e1, e2⟩ := partners_of t
    ⟨(_, _) :: P, fun p m => (List.mem_cons.mp m).elim (fun e => e ▸ h) (hP p), congrArg _ e1, congrArg _ e2⟩
theorem Partners.vals : ∀ {P : List (V × Value)}, Partners P → Vals (P.map Prod.fst) (P.map Prod.snd)
  | [], _ => .nil
  | _ :: _, h => .cons (h _ (.head _)) (Partners.vals fun p m => h p (.tail _ m))
/-- the values in another order: the partners go along -/
theorem go_along {α β : Type} {f : α → β} {ys : List β} : ∀ {P : List α}, ys.Perm (P.map f) → ∃ P' : List α, P'.Perm P ∧ P'.map f = ys := by
  suffices key : ∀ {as bs : List β}, as.Perm bs → ∀ P : List α, P.map f = as → ∃ P' : List α, P'.Perm P ∧ P'.map f = bs from
    fun {P} h => key h.symm P rfl
  intro as bs h
  induction h with
  | nil => exact fun P e => ⟨P, .refl _, e⟩
  | cons x _ ih =>
    intro P e
    match P, e with
    | q :: P, e =>
      obtain ⟨P', hp, e'⟩ := ih P (List.cons.inj e).2
      exact ⟨q :: P', hp.cons q, by rw [List.map_cons, e', (List.cons.inj e).1]⟩
  | swap x y l =>
    intro P e
    match P, e with
    | q :: r :: P, e => exact ⟨r :: q :: P, .swap .., by
        have e1 := List.cons.inj e
        have e2 := List.cons.inj e1.2
        rw [List.map_cons, List.map_cons, e1.1, e2.1, e2.2]⟩
  | trans _ _ ih1 ih2 =>
    intro P e
    obtain ⟨P1, h1, e1⟩ := ih1 P e
    obtain ⟨P2, h2, e2⟩ := ih2 P1 e1
    exact ⟨P2, h2.trans h1, e2⟩
/-- forwards or backwards -/
abbrev turn {α : Type} (b : Bool) (l : List α) : List α := if b = true then l.reverse else l
theorem turn_map {α β : Type} (f : α → β) (l : List α) : ∀ b, (turn b l).map f = turn b (l.map f)
  | true => List.map_reverse ..
  | false => rfl
theorem turn_perm {α : Type} (l : List α) : ∀ b, (turn b l).Perm l
  | true => l.reverse_perm
  | false => .refl _
theorem turn_arr {α : Type} (l : List α) : ∀ b : Bool, (if b = true then l.toArray.reverse else l.toArray) = (turn b l).toArray
  | true => List.reverse_toArray ..
  | false => rfl
/-- the walk over v gathers what stands for xs, and nothing that lay there is touched -/
def Gathers (X : Cx) (s : Shared) (v : Value) (xs : List V) : Prop :=
  ∀ R : List Value → Shared → Prop, (∀ us h t, Vals xs us → (∀ b o, s.heap.get? b = some o → h.get? b = some o) → R us { s with heap := h, toks := t }) → wpAny (model X.prog X.w) X.A.in1 (collect v) R X.xe s
theorem sorted_gathered {pins : List (Addr × Obj)} {σ : L2.St} {H : Hp} {s : Shared} {Q : VK} {b : Bool} {v : Value} {xs : List V} {less : Value → Value → Bool}
    (I : Inv X pins σ H s) (few : xs.length ≤ sizeLine) (walk : Gathers X s v xs) (O : SrtO.Swo less)
    (able : ∀ (us : List Value) (s' : Shared) (l : Addr), 2 ≤ us.length → Vals xs us → Inv X pins σ (upd H l (.lst xs)) s' → H l = none → SrtO.SortableO X.prog X.w X.A.in1.in1 s' l us less)
    (q : ∀ (P : List (V × Value)) (l : Addr), Partners P → (P.map Prod.fst).Perm xs → SrtO.Srtd less (P.map Prod.snd) → H l = none → Q (.ref l) (upd H l (.lst (turn b (P.map Prod.fst))))) :
    wpAny (model X.prog X.w) X.A (call (.builtin "sorted") [v] [(Str.ofString "reverse", .bool b)]) (EP X pins σ Q) X.xe s := by
  refine call_function_entry_kw kind_sorted plain_sorted entry_sorted (args_sorted_rev v (.bool b)) ?_
  refine wpAny_bind (m := checkCount "sorted" 1 1 _) (wpAny_pure ?_)
  refine wpAny_bind (walk _ fun us h t for_xs grown => ?_)
  have n2 : us.length ≤ sizeLine := for_xs.length ▸ few
  refine wpAny_bind (wpAny_newList (wpAny_bind (wpAny_holding ?_)) n2)
  -- the new list lies there, and is ours
  generalize hl : ({ s with heap := h, toks := t } : Shared).heap.objs.size = l
  have hl' : h.objs.size = l := hl
  have at_l : (h.push (seqObj "list" us.toArray 0)).get? l = some (seqObj "list" us.toArray 0) := hl' ▸ Heap.get?_push_size _ rfl
  have free : H l = none := hl' ▸ (I.kept (t' := t) grown).hok.fresh (Nat.le_refl _)
  have J : Inv X pins σ (upd H l (.lst xs)) { s with heap := h.push (seqObj "list" us.toArray 0), toks := t } :=
    (I.kept (t' := t) grown).laid (t' := t) (fun _ _ => Heap.get?_push_of_some _) (Nat.le_of_eq hl) ⟨few, _, 0, for_xs, at_l⟩
  -- it is sorted where it lies
  refine PyProof.Rows.wpAny_call_entry_kw slot_list_sort ⟨_, at_l, rfl⟩ entry_list_sort ?_ (args_list_sort_rev _ (.bool b))
  refine SrtR.list_sort_ordR O at_l n2 (fun two => able us _ l two for_xs J free) fun out up same => ⟨_, rfl, wpAny_pure ⟨_, rfl, ?_⟩⟩
  obtain ⟨P0, hP0, rfl, rfl⟩ := partners_of for_xs
  obtain ⟨P, p1, rfl⟩ := go_along (same.perm.trans (turn_perm (P0.map Prod.snd) b))
  rw [turn_arr]
  obtain ⟨e, he⟩ := sortedHeap_at (out := (turn b (P.map Prod.snd)).toArray) at_l
  have hP : Partners P := fun p m => hP0 p (p1.mem_iff.mp m)
  have ends : Partners (turn b P) := fun p m => hP p ((turn_perm P b).mem_iff.mp m)
  have done := J.write (o := .lst (turn b (P.map Prod.fst))) (t' := t) (h' := sortedHeap (h.push (seqObj "list" (P0.map Prod.snd).toArray 0)) l (P0.map Prod.snd) (turn b (P.map Prod.snd)).toArray)
    (by rw [upd_same]; trivial) (.inl rfl) (fun c u away there => (sortedHeap_old away (Heap.lt_size there)).trans there) ⟨_, he⟩
    ⟨by rw [((turn_perm _ b).trans (p1.map _)).length_eq]; exact few, _, e, by rw [← turn_map, ← turn_map]; exact ends.vals, he⟩
  rw [upd_upd] at done
  exact ⟨.ref l, _, done, rfl, q P l hP (p1.map _) up free⟩
/-- the walk over a dict: its keys -/
theorem gathers_dict {pins : List (Addr × Obj)} {σ : L2.St} {H : Hp} {s : Shared} {a : Addr} {kvs : List (L2.Key × V)} (calm : X.calm = true) (I : Inv X pins σ H s) (d : Rd H a (.dK kvs)) :
    kvs.length ≤ sizeLine ∧ Gathers X s (.ref a) (kvs.map fun e => kV e.1) := by
  have ⟨few, own, es, same, lies⟩ := dk_rd I.hok d
  have ⟨ep, lies⟩ := lies.dictAt
  have keys : (kvs.map fun e => kV e.1) = es.map fun e => kV e.1 := by
    have h := congrArg (List.map kV) same.keys
    rw [List.map_map, List.map_map] at h
    exact h
  refine ⟨few, fun R go => ?_⟩
  rw [keys] at go
  exact PySem.W.kdu_collect (PySem.W.kdl_dict (knd := mixKind X.prog X.w) own) (I.ok.hd calm) lies (same.length ▸ few)
    fun h t got grown is => go _ h t (keys_at (by simpa using is.1) fun j v at_j => is.2 j v (by simpa using at_j)) grown
theorem ints_back {us : List Value} {ns : List Int} (h : IntsAre us ns) : us.map SrtO.iv = ns := by
  induction h with
  | nil => rfl
  | cons n t _ ih => exact congrArg (n :: ·) ih
/-- sorted(d, reverse=b) of a dict whose keys are ints -/
def rSortedRevD (b : Bool) : List V → List V → Hp → VK → Prop := fun vs zs H Q => ∃ (a : Addr) (kvs : List (L2.Key × V)) (ks : List Int), vs = [V.ref a] ∧ zs = [.bl b] ∧ Rd H a (.dK kvs) ∧ kvs.map (·.1) = ks.map Sum.inl ∧
  ∀ (ns' : List Int) (p : Addr), ns'.Perm ks → OrdB b ns' → H p = none → Q (.ref p) (upd H p (.lst (ns'.map V.int)))
theorem cr_sortedRevD {b : Bool} (calm : X.calm = true) : CallRK X (.builtin "sorted") [Str.ofString "reverse"] (rSortedRevD b) := by
  rintro pins s σ H _ _ us ws Q I one by_kw ⟨a, kvs, ks, rfl, rfl, d, hks, q⟩
  obtain ⟨v, w, rfl, rfl, rfl, rfl⟩ : ∃ v w, us = [v] ∧ ws = [w] ∧ v = .ref a ∧ w = .bool b := by
    cases one with | cons e1 t1 => cases t1; cases by_kw with | cons e2 t2 => cases t2; exact ⟨_, _, rfl, rfl, e1, e2⟩
  have keys : (kvs.map fun e => kV e.1) = ks.map V.int := by
    have h := congrArg (List.map kV) hks
    rw [List.map_map, List.map_map] at h
    exact h
  have ⟨few, walk⟩ := gathers_dict calm I d
  rw [keys] at walk
  refine sorted_gathered I (by rw [← keys, List.length_map]; exact few) walk SrtO.swo_int (fun us _ _ two r _ _ => SrtO.ints_sortable r.ints two) fun P l hP perm up free => ?_
  obtain ⟨ns, np, en⟩ := go_along perm
  have back := ints_back (Vals.ints (en ▸ hP.vals))
  rw [← en, ← turn_map]
  refine q _ l ((turn_perm ns b).trans np) ?_ free
  have rise : ns.Pairwise (· ≤ ·) := by
    rw [← back, List.pairwise_map]
    exact up.imp fun h => Int.not_lt.mp (of_decide_eq_false h)
  cases b with
  | false => exact rise
  | true => exact List.pairwise_reverse.mpr rise
end
end El
namespace El
open PySem PySem.Spec PyProof.Rows L2
/-! ### heaps -/
/-- what B names stays as it was -/
def Kp (B : Addr → Prop) (H H' : Hp) : Prop := ∀ b o, B b → H b = some o → H' b = some o
theorem Kp.refl {B : Addr → Prop} {H : Hp} : Kp B H H := fun _ _ _ e => e
theorem Kp.trans {B : Addr → Prop} {H H1 H2 : Hp} (h : Kp B H H1) (k : Kp B H1 H2) : Kp B H H2 := fun b o hb e => k b o hb (h b o hb e)
theorem Kp.of {B : Addr → Prop} {H H' : Hp} (h : Same H H') : Kp B H H' := fun b o _ e => h b o e
theorem Kp.same {H H' : Hp} (h : Kp (fun _ => True) H H') : Same H H' := fun b o e => h b o trivial e
theorem same_new {H : Hp} {p : Addr} {o : HO} (h : H p = none) : Same H (upd H p o) := fun b u e => by
  rw [upd_ne (ne_of_none e h)]
  exact e
theorem Same.mut {H H' : Hp} {p : Addr} {o : HO} (e : Same H H') (h : H p = none) : Same H (upd H' p o) := fun b u q => by
  rw [upd_ne (ne_of_none q h)]
  exact e b u q
theorem Kp.mut {B : Addr → Prop} {H H' : Hp} {p : Addr} {o : HO} (e : Kp B H H') (h : ¬ B p) : Kp B H (upd H' p o) := fun b u hb q => by
  have n : b ≠ p := fun z => h (z ▸ hb)
  rw [upd_ne n]
  exact e b u hb q
theorem Kp.new {B : Addr → Prop} {H H' : Hp} {p : Addr} {o : HO} (e : Kp B H H') (h : H' p = none) : Kp B H (upd H' p o) := e.trans (Kp.of (same_new h))
theorem Kp.mutF {B : Addr → Prop} {H H' : Hp} {p : Addr} {o : HO} (e : Kp B H H') (h : H p = none) : Kp B H (upd H' p o) := fun b u hb q => by
  rw [upd_ne (ne_of_none q h)]
  exact e b u hb q
theorem Kp.none {B : Addr → Prop} {H H' : Hp} (e : Kp B H H') {p : Addr} (hb : B p) (h : H' p = none) : H p = none := by
  cases z : H p with
  | none => rfl
  | some x =>
    have := e _ _ hb z
    rw [h] at this
    cases this
theorem no_of {H : Hp} {a p : Addr} {o : HO} (h : H a = some o) (hp : H p = none) : p ≠ a := fun z => by
  rw [z, h] at hp
  cases hp
theorem same_none {H H' : Hp} (e : Same H H') {p : Addr} (h : H' p = none) : H p = none := e.free h
theorem ils {n : Nat} (h : n ≤ 100000) : n < sizeLine := Nat.lt_of_le_of_lt h (by decide)
theorem ile {n : Nat} (h : n ≤ 100000) : n ≤ sizeLine := Nat.le_of_lt (ils h)
theorem ints_at {ns : List Int} {i : Nat} {x : V} (h : (ns.map V.int)[i]? = some x) : ∃ n, ns[i]? = some n ∧ x = .int n := by
  rw [List.getElem?_map] at h
  cases e : ns[i]? with
  | none => rw [e] at h; cases h
  | some n => rw [e] at h; exact ⟨n, rfl, (Option.some.inj h).symm⟩
theorem refs_at {ts : List Addr} {i : Nat} {x : V} (h : (ts.map V.ref)[i]? = some x) : ∃ t, ts[i]? = some t ∧ x = .ref t := by
  rw [List.getElem?_map] at h
  cases e : ts[i]? with
  | none => rw [e] at h; cases h
  | some t => rw [e] at h; exact ⟨t, rfl, (Option.some.inj h).symm⟩
theorem at_lt {α : Type} {l : List α} {i : Nat} {x : α} (h : l[i]? = some x) : i < l.length := (List.getElem?_eq_some_iff.mp h).1
theorem at_some {α : Type} {l : List α} {i : Nat} (h : i < l.length) : ∃ x, l[i]? = some x := ⟨l[i], List.getElem?_eq_getElem h⟩
theorem take_snoc {α : Type} {l : List α} {i : Nat} {x : α} (h : l[i]? = some x) : l.take (i + 1) = l.take i ++ [x] := by
  rw [List.take_add_one, h]
  rfl
theorem take_full {α : Type} (l : List α) : l.take l.length = l := List.take_length
/-! ### a list of pairs of ints -/
structure GsAt (H : Hp) (B : Addr → Prop) (a : Addr) (ts : List Addr) (gs : List (Int × Int)) : Prop where
  top : H a = some (.lst (ts.map V.ref))
  ba : B a
  len : ts.length = gs.length
  at' : ∀ (i : Nat) (t : Addr) (g : Int × Int), ts[i]? = some t → gs[i]? = some g → H t = some (.tup [.int g.1, .int g.2])
  b : ∀ t ∈ ts, B t
theorem GsAt.keep {H H' : Hp} {B : Addr → Prop} {a : Addr} {ts : List Addr} {gs : List (Int × Int)} (h : GsAt H B a ts gs) (k : Kp B H H') : GsAt H' B a ts gs :=
  ⟨k _ _ h.ba h.top, h.ba, h.len, fun i t g e f => k _ _ (h.b t (List.mem_of_getElem? e)) (h.at' i t g e f), h.b⟩
theorem GsAt.same {H H' : Hp} {B : Addr → Prop} {a : Addr} {ts : List Addr} {gs : List (Int × Int)} (h : GsAt H B a ts gs) (k : Same H H') : GsAt H' B a ts gs := h.keep (.of k)
theorem GsAt.weaken {H : Hp} {B B' : Addr → Prop} {a : Addr} {ts : List Addr} {gs : List (Int × Int)} (h : GsAt H B a ts gs) (k : ∀ b, B b → B' b) : GsAt H B' a ts gs :=
  ⟨h.top, k _ h.ba, h.len, h.at', fun t m => k _ (h.b t m)⟩
theorem GsAt.seq {K : PySem.W.Frag} {H : Hp} {B : Addr → Prop} {a : Addr} {ts : List Addr} {gs : List (Int × Int)} (h : GsAt H B a ts gs) : SqL K H a (ts.map V.ref) := SqL.of h.top
theorem GsAt.get {H : Hp} {B : Addr → Prop} {a : Addr} {ts : List Addr} {gs : List (Int × Int)} (h : GsAt H B a ts gs) {i : Nat} {x : V} (e : (ts.map V.ref)[i]? = some x) : ∃ t g, x = .ref t ∧ gs[i]? = some g ∧ H t = some (.tup [.int g.1, .int g.2]) := by
  obtain ⟨t, e1, rfl⟩ := refs_at e
  have hi := at_lt e1
  rw [h.len] at hi
  obtain ⟨g, e2⟩ := at_some hi
  exact ⟨t, g, rfl, e2, h.at' i t g e1 e2⟩
/-- pushed -/
theorem GsAt.push {H : Hp} {B : Addr → Prop} {a : Addr} {ts : List Addr} {gs : List (Int × Int)} (h : GsAt H B a ts gs) (hn : a ∉ ts) {q : Addr} {g : Int × Int} (e : H q = some (.tup [.int g.1, .int g.2])) (bq : B q) :
    GsAt (upd H a (.lst (ts.map V.ref ++ [.ref q]))) B a (ts ++ [q]) (gs ++ [g]) := by
  refine ⟨?_, h.ba, ?_, fun i t x e1 e2 => ?_, fun t m => ?_⟩
  · rw [upd_same, List.map_append]
    rfl
  · rw [List.length_append, List.length_append, h.len]
    rfl
  · have nq : q ≠ a := fun z => by
      rw [z, h.top] at e
      cases e
    by_cases hi : i < ts.length
    · rw [List.getElem?_append_left hi] at e1
      rw [List.getElem?_append_left (by rw [← h.len]; exact hi)] at e2
      have nt : t ≠ a := fun z => hn (z ▸ List.mem_of_getElem? e1)
      rw [upd_ne nt]
      exact h.at' i t x e1 e2
    · have hi' : i = ts.length := by
        have := at_lt e1
        rw [List.length_append, List.length_singleton] at this
        omega
      subst hi'
      rw [List.getElem?_append_right (Nat.le_refl _), Nat.sub_self] at e1
      rw [h.len, List.getElem?_append_right (Nat.le_refl _), Nat.sub_self] at e2
      have e1' : q = t := Option.some.inj e1
      have e2' : g = x := Option.some.inj e2
      subst e1' e2'
      rw [upd_ne nq]
      exact e
  · rcases List.mem_append.mp m with m | m
    · exact h.b t m
    · rw [List.mem_singleton.mp m]
      exact bq
theorem GsAt.there {H : Hp} {B : Addr → Prop} {a : Addr} {ts : List Addr} {gs : List (Int × Int)} (h : GsAt H B a ts gs) : ∀ b, (b = a ∨ b ∈ ts) → ∃ x, H b = some x := fun b m => by
  rcases m with rfl | m
  · exact ⟨_, h.top⟩
  · obtain ⟨i, e⟩ := List.mem_iff_getElem?.mp m
    have hl := at_lt e
    rw [h.len] at hl
    obtain ⟨g, eg⟩ := at_some hl
    exact ⟨_, h.at' i b g e eg⟩
theorem GsAt.reB {H : Hp} {B B' : Addr → Prop} {a : Addr} {ts : List Addr} {gs : List (Int × Int)} (h : GsAt H B a ts gs) (k : ∀ b, (b = a ∨ b ∈ ts) → B b → B' b) : GsAt H B' a ts gs :=
  ⟨h.top, k _ (.inl rfl) h.ba, h.len, h.at', fun t m => k _ (.inr m) (h.b t m)⟩
/-- what stands in H and is named by B -/
def Liv (H : Hp) (B : Addr → Prop) (b : Addr) : Prop := (∃ x, H b = some x) ∧ B b
theorem GsAt.liv {H : Hp} {B : Addr → Prop} {a : Addr} {ts : List Addr} {gs : List (Int × Int)} (h : GsAt H B a ts gs) : GsAt H (Liv H B) a ts gs := h.reB fun b m hb => ⟨h.there b m, hb⟩
theorem Liv.no {H : Hp} {B : Addr → Prop} {p : Addr} (h : H p = none) : ¬ Liv H B p := fun ⟨⟨x, e⟩, _⟩ => by
  rw [h] at e
  cases e
theorem Liv.of {H : Hp} {B : Addr → Prop} {p : Addr} {o : HO} (h : H p = some o) (b : B p) : Liv H B p := ⟨⟨o, h⟩, b⟩
theorem Kp.weak {B B' : Addr → Prop} {H H' : Hp} (k : Kp B H H') (h : ∀ b, B' b → B b) : Kp B' H H' := fun b o hb e => k b o (h b hb) e
theorem Kp.liv {B : Addr → Prop} {H0 H H' : Hp} (k : Kp B H H') : Kp (Liv H0 B) H H' := k.weak fun _ h => h.2
/-! ### a list of lists of ints, each its own -/
structure RmsAt (H : Hp) (B : Addr → Prop) (o : Addr) (ts : List Addr) (rs : List (List Int)) : Prop where
  top : H o = some (.lst (ts.map V.ref))
  bo : B o
  nd : ts.Nodup
  no : o ∉ ts
  len : ts.length = rs.length
  at' : ∀ (i : Nat) (t : Addr) (r : List Int), ts[i]? = some t → rs[i]? = some r → H t = some (.lst (r.map V.int))
  b : ∀ t ∈ ts, B t
theorem RmsAt.keep {H H' : Hp} {B : Addr → Prop} {a : Addr} {ts : List Addr} {rs : List (List Int)} (h : RmsAt H B a ts rs) (k : Kp B H H') : RmsAt H' B a ts rs :=
  ⟨k _ _ h.bo h.top, h.bo, h.nd, h.no, h.len, fun i t g e f => k _ _ (h.b t (List.mem_of_getElem? e)) (h.at' i t g e f), h.b⟩
theorem RmsAt.same {H H' : Hp} {B : Addr → Prop} {a : Addr} {ts : List Addr} {rs : List (List Int)} (h : RmsAt H B a ts rs) (k : Same H H') : RmsAt H' B a ts rs := h.keep (.of k)
theorem RmsAt.weaken {H : Hp} {B B' : Addr → Prop} {a : Addr} {ts : List Addr} {rs : List (List Int)} (h : RmsAt H B a ts rs) (k : ∀ b, B b → B' b) : RmsAt H B' a ts rs :=
  ⟨h.top, k _ h.bo, h.nd, h.no, h.len, h.at', fun t m => k _ (h.b t m)⟩
theorem RmsAt.seq {K : PySem.W.Frag} {H : Hp} {B : Addr → Prop} {a : Addr} {ts : List Addr} {rs : List (List Int)} (h : RmsAt H B a ts rs) : SqL K H a (ts.map V.ref) := SqL.of h.top
theorem RmsAt.get {H : Hp} {B : Addr → Prop} {a : Addr} {ts : List Addr} {rs : List (List Int)} (h : RmsAt H B a ts rs) {i : Nat} {x : V} (e : (ts.map V.ref)[i]? = some x) : ∃ t r, x = .ref t ∧ ts[i]? = some t ∧ rs[i]? = some r ∧ H t = some (.lst (r.map V.int)) := by
  obtain ⟨t, e1, rfl⟩ := refs_at e
  have hi := at_lt e1
  rw [h.len] at hi
  obtain ⟨g, e2⟩ := at_some hi
  exact ⟨t, g, rfl, e1, e2, h.at' i t g e1 e2⟩
theorem RmsAt.of {H : Hp} {B : Addr → Prop} {a : Addr} {ts : List Addr} {rs : List (List Int)} (h : RmsAt H B a ts rs) {i : Nat} {r : List Int} (e : rs[i]? = some r) : ∃ t, ts[i]? = some t ∧ H t = some (.lst (r.map V.int)) := by
  have hi := at_lt e
  rw [← h.len] at hi
  obtain ⟨t, e2⟩ := at_some hi
  exact ⟨t, e2, h.at' i t r e2 e⟩
theorem RmsAt.nil {H : Hp} {B : Addr → Prop} {o : Addr} (h : H o = some (.lst [])) (bo : B o) : RmsAt H B o [] [] :=
  ⟨h, bo, List.nodup_nil, by simp, rfl, fun i t r e _ => by simp at e, fun t m => by simp at m⟩
/-- a new empty list behind -/
theorem RmsAt.push {H : Hp} {B : Addr → Prop} {o : Addr} {ts : List Addr} {rs : List (List Int)} (h : RmsAt H B o ts rs) {q : Addr} {r : List Int} (hq : H q = none) (bq : B q) :
    RmsAt (upd (upd H q (.lst (r.map V.int))) o (.lst (ts.map V.ref ++ [.ref q]))) B o (ts ++ [q]) (rs ++ [r]) := by
  have nq : q ≠ o := no_of h.top hq
  have nqt : ∀ t ∈ ts, q ≠ t := fun t m => by
    obtain ⟨i, hi⟩ := List.mem_iff_getElem?.mp m
    have hl := at_lt hi
    rw [h.len] at hl
    obtain ⟨r', er⟩ := at_some hl
    exact no_of (h.at' i t r' hi er) hq
  refine ⟨?_, h.bo, ?_, ?_, ?_, fun i t x e1 e2 => ?_, fun t m => ?_⟩
  · rw [upd_same, List.map_append]
    rfl
  · rw [List.nodup_append]
    exact ⟨h.nd, by simp, fun a ha b hb => by
      rw [List.mem_singleton.mp hb]
      exact (nqt a ha).symm⟩
  · intro m
    rcases List.mem_append.mp m with m | m
    · exact h.no m
    · exact nq (List.mem_singleton.mp m).symm
  · rw [List.length_append, List.length_append, h.len]
    rfl
  · by_cases hi : i < ts.length
    · rw [List.getElem?_append_left hi] at e1
      rw [List.getElem?_append_left (by rw [← h.len]; exact hi)] at e2
      have nt : t ≠ o := fun z => h.no (z ▸ List.mem_of_getElem? e1)
      rw [upd_ne nt, upd_ne (nqt t (List.mem_of_getElem? e1)).symm]
      exact h.at' i t x e1 e2
    · have hi' : i = ts.length := by
        have := at_lt e1
        rw [List.length_append, List.length_singleton] at this
        omega
      subst hi'
      rw [List.getElem?_append_right (Nat.le_refl _), Nat.sub_self] at e1
      rw [h.len, List.getElem?_append_right (Nat.le_refl _), Nat.sub_self] at e2
      have e1' : q = t := Option.some.inj e1
      have e2' : r = x := Option.some.inj e2
      subst e1' e2'
      rw [upd_ne nq, upd_same]
  · rcases List.mem_append.mp m with m | m
    · exact h.b t m
    · rw [List.mem_singleton.mp m]
      exact bq
/-- one of them changed -/
theorem RmsAt.set {H : Hp} {B : Addr → Prop} {o : Addr} {ts : List Addr} {rs : List (List Int)} (h : RmsAt H B o ts rs) {i : Nat} {t : Addr} (e : ts[i]? = some t) (r : List Int) :
    RmsAt (upd H t (.lst (r.map V.int))) B o ts (rs.set i r) := by
  have nt : t ≠ o := fun z => h.no (z ▸ List.mem_of_getElem? e)
  refine ⟨?_, h.bo, h.nd, h.no, ?_, fun j u x e1 e2 => ?_, h.b⟩
  · rw [upd_ne nt.symm]
    exact h.top
  · rw [List.length_set]
    exact h.len
  · by_cases hj : j = i
    · subst hj
      have e' : u = t := Option.some.inj (e1.symm.trans e)
      subst e'
      rw [upd_same]
      have hl := at_lt e1
      rw [h.len] at hl
      rw [List.getElem?_set_self hl] at e2
      have : r = x := Option.some.inj e2
      rw [this]
    · rw [List.getElem?_set_ne (fun z => hj z.symm)] at e2
      have hut : u ≠ t := fun z => by
        subst z
        exact hj (nd_ix h.nd e1 e)
      rw [upd_ne hut]
      exact h.at' j u x e1 e2
theorem RmsAt.newTop {H H' : Hp} {B B' : Addr → Prop} {o : Addr} {ts : List Addr} {rs : List (List Int)} (h : RmsAt H B o ts rs) (k : ∀ b u, (b = o ∨ b ∈ ts) → H b = some u → H' b = some u) (kb : ∀ b, (b = o ∨ b ∈ ts) → B' b) : RmsAt H' B' o ts rs :=
  ⟨k _ _ (.inl rfl) h.top, kb _ (.inl rfl), h.nd, h.no, h.len, fun i t r e f => k _ _ (.inr (List.mem_of_getElem? e)) (h.at' i t r e f), fun t m => kb t (.inr m)⟩
/-! ### the dict of patience -/
def pks (gs : List (Int × Int)) : List (L2.Key × V) := gs.map fun g => (Sum.inl g.1, V.int g.2)
theorem pks_len (gs : List (Int × Int)) : (pks gs).length = gs.length := List.length_map _
theorem pks_keys (gs : List (Int × Int)) : (pks gs).map (·.1) = (gs.map (·.1)).map Sum.inl := by
  unfold pks
  rw [List.map_map, List.map_map]
  rfl
theorem pks_snoc (gs : List (Int × Int)) (g : Int × Int) : pks (gs ++ [g]) = pks gs ++ [(Sum.inl g.1, V.int g.2)] := List.map_append
theorem pks_none {gs : List (Int × Int)} {a : Int} (h : a ∉ gs.map (·.1)) : valV (pks gs) (Sum.inl a) = none := by
  induction gs with
  | nil => rfl
  | cons g gs ih =>
    have h' : ¬ (a = g.1 ∨ a ∈ gs.map (·.1)) := fun z => h (by rw [List.map_cons]; exact List.mem_cons.mpr z)
    have n : ¬ (Sum.inl g.1 : L2.Key) = Sum.inl a := fun z => h' (.inl (Sum.inl.inj z).symm)
    show valV ((Sum.inl g.1, V.int g.2) :: pks gs) (Sum.inl a) = none
    rw [valV_neg n]
    exact ih fun z => h' (.inr z)
theorem pks_some : ∀ {gs : List (Int × Int)} {g : Int × Int}, (gs.map (·.1)).Nodup → g ∈ gs → valV (pks gs) (Sum.inl g.1) = some (.int g.2)
  | x :: gs, g, nd, h => by
    have nd' : (x.1 :: gs.map (·.1)).Nodup := nd
    obtain ⟨n1, n2⟩ := List.nodup_cons.mp nd'
    show valV ((Sum.inl x.1, V.int x.2) :: pks gs) (Sum.inl g.1) = some (.int g.2)
    rcases List.mem_cons.mp h with e | h
    · subst e
      rw [valV_pos rfl]
    · have n : ¬ (Sum.inl x.1 : L2.Key) = Sum.inl g.1 := fun z => n1 (by
        rw [Sum.inl.inj z]
        exact List.mem_map.mpr ⟨g, h, rfl⟩)
      rw [valV_neg n]
      exact pks_some n2 h
theorem putK_snoc {gs : List (Int × Int)} {g : Int × Int} (h : g.1 ∉ gs.map (·.1)) : putK (pks gs) (Sum.inl g.1) (V.int g.2) = pks (gs ++ [g]) := by
  rw [putK_new _ (pks_none h), pks_snoc]
theorem Fit.take_no {gs : List (Int × Int)} (f : Fit gs) {i : Nat} {g : Int × Int} (h : gs[i]? = some g) : g.1 ∉ (gs.take i).map (·.1) := by
  intro m
  have e : gs = gs.take i ++ g :: gs.drop (i + 1) := by
    have hl := at_lt h
    have e2 : gs[i] = g := by
      rw [List.getElem?_eq_getElem hl] at h
      exact Option.some.inj h
    rw [← e2, List.getElem_cons_drop, List.take_append_drop]
  have nd := f.nd
  rw [e, List.map_append, List.nodup_append] at nd
  exact nd.2.2 _ m g.1 (by rw [List.map_cons]; exact List.mem_cons_self) rfl
/-! ### rules by a written part that is named (for what stands in a comprehension) -/
section
variable {X : Cx}
theorem lenK (K : PySem.W.Frag) (e : X.K = K := by rfl) : CallR X (.builtin "len") (fun xs H Q => ∃ p ys, xs = [.ref p] ∧ (SqL K H p ys ∨ SqT K H p ys) ∧ Q (.int ys.length) H) := by
  subst e
  exact call_len_seq
theorem ixlK (K : PySem.W.Frag) (e : X.K = K := by rfl) : IxR X (rIxL K) := by
  subst e
  exact ix_list
theorem ixtK (K : PySem.W.Frag) (e : X.K = K := by rfl) : IxR X (rIxT K) := by
  subst e
  exact ix_tup
theorem sllK (K : PySem.W.Frag) (e : X.K = K := by rfl) : SlR X (rSlL K) := by
  subst e
  exact sl_list
theorem eqDK (K : PySem.W.Frag) (hu : X.A.units + 64 < cLine) (e : X.K = K := by rfl) : OpR X (compareOp .Eq) (rEqD K) := by
  subst e
  exact op_eqD hu
theorem neDK (K : PySem.W.Frag) (hu : X.A.units + 64 < cLine) (e : X.K = K := by rfl) : OpR X (compareOp .NotEq) (rNeD K) := by
  subst e
  exact op_neD hu
theorem isiK (K : PySem.W.Frag) (e : X.K = K := by rfl) : CallR X (.builtin "isinstance") (rIsi K) := by
  subst e
  exact call_isi
theorem sumK (K : PySem.W.Frag) (hc : X.calm = true) (e : X.K = K := by rfl) : CallR X (.builtin "sum") (rSum K) := by
  subst e
  exact cr_sum hc
theorem inK (K : PySem.W.Frag) (e : X.K = K := by rfl) : OpR X (compareOp .In) (rIn K false) := by
  subst e
  exact op_in_seq
theorem notInK (K : PySem.W.Frag) (e : X.K = K := by rfl) : OpR X (compareOp .NotIn) (rIn K true) := by
  subst e
  exact op_notIn_seq
theorem listOfK (K : PySem.W.Frag) (e : X.K = K := by rfl) : CallR X (.type "list") (fun xs H Q => ∃ p ys, xs = [.ref p] ∧ (SqL K H p ys ∨ SqT K H p ys) ∧ ∀ l, H l = none → Q (.ref l) (upd H l (.lst ys))) := by
  subst e
  exact call_list_of
theorem pgTupK {es : List Expr} {k : Nat} {t : TGs} {pos : Pos} (K : PySem.W.Frag) (n : Nat) (hc : X.calm = true) (h : PGs X es t)
    (hn : (assignEach es X.env).length = n := by rfl) (hst : (assignEach es X.env).findIdx? (·.1) = none := by rfl) (e : X.K = K := by rfl) : PG X (.Tuple es k pos) (gTup K n t) := by
  subst e
  exact pg_tup hc h hn hst
theorem bmK {T : String} {name : Str} {id : String} {o e : Expr} {es : List Expr} {to : TE} {t : TA} {apos cpos : Pos} {r : V → List V → Hp → VK → Prop} (K : PySem.W.Frag) (pa : PlainAttrs T) (slot : Slot T name id) (hty : typeOf (.builtin id) = pure (.type "method_descriptor")) (hm : MtR X id r) (ho : PE X o to) (ha : PA X (e :: es) t)
    (hbase : attributeBase o name X.env (eval o X.env) = eval o X.env := by rfl)
    (hfew : ((backTo cpos (starEach (e :: es) X.env)).all (fun x => !x.1) && (backToKw cpos (keywordEach [] X.env)).all (fun x => x.1.isSome)
      && decide ((e :: es).length + ([] : List Keyword).length + (if ([] : List Keyword).isEmpty then 0 else 1) < 30)) = true := by rfl)
    (hline : (apos.endLine == cpos.line) = true := by rfl) (hs : starEach (e :: es) X.env = (false, eval e X.env) :: starEach es X.env := by rfl) (hplain : (backTo cpos (starEach es X.env)).any (·.1) = false := by rfl) (eK : X.K = K := by rfl) :
    PE X (.Call (.Attribute o name apos) (e :: es) [] cpos) (tBM K T r to t) := by
  subst eK
  exact pe_bm pa slot hty hm ho ha hbase hfew hline hs hplain
end
/-! ### cuts: what holds between two parts of a body -/
section
variable {σ : L2.St} {H : Hp} {D : Ends} {c : TT} {t u tb : TS}
theorem while_to (W : Nat → L2.St → Hp → Prop) (E : L2.St → Hp → Prop) (h0 : ∃ m, W m σ H) (hd : ∀ σ H, E σ H → D.nx σ H)
    (hs : ∀ X : L2.St → Hp → Prop, (∀ σ H, E σ H → X σ H) → ∀ m σ H, W m σ H → c σ H fun b H1 => if b = true then ∃ N : L2.St → Hp → Prop, (∀ σ' H', N σ' H' → ∃ m', m' < m ∧ W m' σ' H') ∧ tb { D with nx := N, ct := N, bk := X } σ H1 else X σ H1) : tWhile c tb D σ H := ⟨W, h0, hs D.nx hd⟩
theorem seq_to (E : L2.St → Hp → Prop) (h1 : ∀ X : L2.St → Hp → Prop, (∀ σ H, E σ H → X σ H) → t { D with nx := X } σ H) (h2 : ∀ σ H, E σ H → u D σ H) : tSeq t u D σ H := h1 (u D) h2
theorem seq_set {i : Nat} {v : V} (h : u D (σ.set i (some v)) H) : tSeq (tAsg (tC v) (gName i)) u D σ H := h
theorem st_to (E : L2.St → Hp → Prop) (h1 : ∀ X : L2.St → Hp → Prop, (∀ σ H, E σ H → X σ H) → t { D with nx := X } σ H) (h2 : ∀ σ H, E σ H → D.nx σ H) : t D σ H := h1 D.nx h2
end
theorem ixN_of {n j : Nat} (hj : j < n) : ixN n (j : Int) = some j := by
  unfold ixN
  rw [if_pos (by omega), if_pos (by omega), Int.toNat_natCast]
theorem seq_ix {n j : Nat} (hj : j < n) : seqIndex? (j : Int) n = some j := (ixN_seq (ixN_of hj)).1
theorem at_pick {xs : List V} {r : Int} (h0 : 0 ≤ r) (h1 : r < xs.length) : ∃ v, atI xs r = some v ∧ v ∈ xs := by
  obtain ⟨k, rfl⟩ : ∃ k : Nat, r = k := ⟨r.toNat, by omega⟩
  obtain ⟨v, e⟩ := at_some (show k < xs.length by omega)
  exact ⟨v, atI_nat e, List.mem_of_getElem? e⟩
theorem erase_perm {α : Type} : ∀ {l : List α} {k : Nat} {x : α}, l[k]? = some x → (x :: l.eraseIdx k).Perm l
  | [], _, _, h => by simp at h
  | a :: l, 0, x, h => by
    obtain rfl : a = x := Option.some.inj h
    exact List.Perm.refl _
  | a :: l, k + 1, x, h => by
    have ih := erase_perm (l := l) (k := k) (x := x) (by simpa using h)
    exact (List.Perm.swap a x (l.eraseIdx k)).trans (ih.cons a)
/-! ### data -/
def dInts (ns : List Int) : PyData := .list (ns.map .int)
def dGs (gs : List (Int × Int)) : PyData := .list (gs.map fun g => .tuple [.int g.1, .int g.2])
def dRows (rs : List (List Int)) : PyData := .list (rs.map dInts)
theorem canAll : ∀ {xs : List PyData}, (∀ x ∈ xs, x.canLay0 = true) → PyData.canLayAll0 xs = true
  | [], _ => by simp [PyData.canLayAll0]
  | x :: xs, h => by
    rw [PyData.canLayAll0, h x List.mem_cons_self, canAll fun y hy => h y (List.mem_cons_of_mem _ hy)]
    rfl
theorem depAll {n : Nat} : ∀ {xs : List PyData}, (∀ x ∈ xs, x.depth ≤ n) → PyData.depthAll xs ≤ n
  | [], _ => by simp [PyData.depthAll]
  | x :: xs, h => by
    rw [PyData.depthAll]
    exact Nat.max_le.mpr ⟨h x List.mem_cons_self, depAll fun y hy => h y (List.mem_cons_of_mem _ hy)⟩
structure Oks (n : Nat) (d : PyData) : Prop where
  can : d.canLay0 = true
  dep : d.depth ≤ n
theorem Oks.int (i : Int) : Oks 0 (.int i) := ⟨by simp [PyData.canLay0], by simp [PyData.depth]⟩
theorem Oks.mono {n m : Nat} {d : PyData} (h : Oks n d) (k : n ≤ m) : Oks m d := ⟨h.can, Nat.le_trans h.dep k⟩
theorem Oks.lst {n : Nat} {xs : List PyData} (h : ∀ x ∈ xs, Oks n x) : Oks (n + 1) (.list xs) := ⟨by rw [PyData.canLay0]; exact canAll fun x m => (h x m).can, by rw [PyData.depth]; exact Nat.succ_le_succ (depAll fun x m => (h x m).dep)⟩
theorem Oks.tup {n : Nat} {xs : List PyData} (h : ∀ x ∈ xs, Oks n x) : Oks (n + 1) (.tuple xs) := ⟨by rw [PyData.canLay0]; exact canAll fun x m => (h x m).can, by rw [PyData.depth]; exact Nat.succ_le_succ (depAll fun x m => (h x m).dep)⟩
theorem Oks.ints (ns : List Int) : Oks 1 (dInts ns) := .lst fun x m => by
  obtain ⟨n, _, rfl⟩ := List.mem_map.mp m
  exact .int n
theorem Oks.gs (gs : List (Int × Int)) : Oks 2 (dGs gs) := .lst fun x m => by
  obtain ⟨g, _, rfl⟩ := List.mem_map.mp m
  refine .tup fun y hy => ?_
  rcases List.mem_cons.mp hy with rfl | hy
  · exact .int _
  · rw [List.mem_singleton.mp hy]
    exact .int _
theorem Oks.rows (rs : List (List Int)) : Oks 2 (dRows rs) := .lst fun x m => by
  obtain ⟨r, _, rfl⟩ := List.mem_map.mp m
  exact .ints r
theorem Oks.shaped {n : Nat} {d : PyData} (h : Oks n d) (k : n ≤ 64 := by decide) : SeqAt.shaped d = true := by
  unfold SeqAt.shaped
  rw [h.can, decide_eq_true (Nat.le_trans h.dep k)]
  rfl
theorem Oks.eqv {n : Nat} {d : PyData} (h : Oks n d) : PyData.eqv d d = true := SeqAt.eqv_refl d h.can
theorem dp_ints {K : PySem.W.Frag} {H : Hp} {ns : List Int} : DpAll K H (ns.map V.int) (ns.map .int) := by
  induction ns with
  | nil => exact .nil
  | cons n ns ih => exact .cons (.int n) ih
theorem Dp.ints {K : PySem.W.Frag} {H : Hp} {a : Addr} {ns : List Int} (h : H a = some (.lst (ns.map V.int))) : Dp K H (.ref a) (dInts ns) := .lst (SqL.of h) dp_ints
theorem dpAll_of {K : PySem.W.Frag} {H : Hp} : ∀ {vs : List V} {ds : List PyData}, vs.length = ds.length → (∀ (i : Nat) (v : V) (d : PyData), vs[i]? = some v → ds[i]? = some d → Dp K H v d) → DpAll K H vs ds
  | [], [], _, _ => .nil
  | v :: vs, d :: ds, hl, h => .cons (h 0 v d rfl rfl) (dpAll_of (by simpa using hl) fun i v d e f => h (i + 1) v d (by simpa using e) (by simpa using f))
  | [], _ :: _, hl, _ => by simp at hl
  | _ :: _, [], hl, _ => by simp at hl
theorem GsAt.dp {K : PySem.W.Frag} {H : Hp} {B : Addr → Prop} {a : Addr} {ts : List Addr} {gs : List (Int × Int)} (h : GsAt H B a ts gs) : Dp K H (.ref a) (dGs gs) := by
  refine .lst h.seq (dpAll_of (by rw [List.length_map, List.length_map, h.len]) fun i v d e f => ?_)
  obtain ⟨t, g, rfl, eg, et⟩ := h.get e
  rw [List.getElem?_map, eg] at f
  obtain rfl := Option.some.inj f
  exact .tup (SqT.of et) (.cons (.int _) (.cons (.int _) .nil))
theorem RmsAt.dp {K : PySem.W.Frag} {H : Hp} {B : Addr → Prop} {a : Addr} {ts : List Addr} {rs : List (List Int)} (h : RmsAt H B a ts rs) : Dp K H (.ref a) (dRows rs) := by
  refine .lst h.seq (dpAll_of (by rw [List.length_map, List.length_map, h.len]) fun i v d e f => ?_)
  obtain ⟨t, r, rfl, _, er, et⟩ := h.get e
  rw [List.getElem?_map, er] at f
  obtain rfl := Option.some.inj f
  exact Dp.ints et
theorem eqv_nil (gs : List Int) : PyData.eqv (dInts gs) (dInts []) = gs.isEmpty := by
  cases gs with
  | nil => rfl
  | cons x r => rfl
theorem relTy (n : String) : RelV (.ty n) (.type n) := rfl
theorem FnOk.or {P : Program} {w : World} {K : PySem.W.Frag} {mg : Str → Option Value} {base : Heap} {CX : CXT} {k : Nat} {f : Addr} {fd : FuncData} {ps : List Str} {sp sp' : Sp} (F : FnOk P w K mg base CX k f fd ps sp) (F' : FnOk P w K mg base CX k f fd ps sp') :
    FnOk P w K mg base CX k f fd ps (fun vs H Q E => sp vs H Q E ∨ sp' vs H Q E) :=
  ⟨fun vs H Q E h => h.elim (F.len vs H Q E) (F'.len vs H Q E), fun A outer s H args us vs Q E hr e0 hb r h => h.elim (F.run A outer s H args us vs Q E hr e0 hb r) (F'.run A outer s H args us vs Q E hr e0 hb r)⟩
/-! ### built-ins by their names -/
structure Bi (mg : Str → Option Value) : Prop where
  len : mg "len" = none
  range : mg "range" = none
  enumerate : mg "enumerate" = none
  sorted : mg "sorted" = none
  sum : mg "sum" = none
  min : mg "min" = none
  max : mg "max" = none
  isinstance : mg "isinstance" = none
  zip : mg "zip" = none
  list_ : mg "list" = none
  tuple_ : mg "tuple" = none
  int_ : mg "int" = none
  bool_ : mg "bool" = none
  str_ : mg "str" = none
  abs : mg "abs" = none
  repr : mg "repr" = none
  dict_ : mg "dict" = none
  any : mg "any" = none
  all : mg "all" = none
  set_ : mg "set" = none
  reversed : mg "reversed" = none
  ValueError_ : mg "ValueError" = none
  divmod : mg "divmod" = none
end El
namespace El
open PySem PySem.Spec PyProof.Rows L2
/-- how many live in each -/
def lens (rs : List (List Int)) : List Int := rs.map fun r => (r.length : Int)
theorem lens_length (rs : List (List Int)) : (lens rs).length = rs.length := List.length_map _
theorem lens_at {rs : List (List Int)} {i : Nat} {r : List Int} (h : rs[i]? = some r) : (lens rs)[i]? = some (r.length : Int) := by
  unfold lens
  rw [List.getElem?_map, h]
  rfl
theorem cut_to (xs : List V) (j : Nat) : cutV xs none (some (j : Int)) = xs.take j := by
  unfold cutV
  rw [HT.sIx_none, HT.sIx_nat]
  show (List.drop 0 xs).take (min j xs.length - 0) = _
  rw [List.drop_zero, Nat.sub_zero, ← List.take_eq_take_min]
/-- the pair that stands at a value -/
def prOf (H : Hp) : V → Int × Int
  | .ref t => match H t with
    | some (.tup [.int i, .int j]) => (i, j)
    | _ => (0, 0)
  | _ => (0, 0)
theorem prOf_is {H : Hp} {t : Addr} {g : Int × Int} (h : H t = some (.tup [.int g.1, .int g.2])) : prOf H (.ref t) = g := by
  show (match H t with
    | some (.tup [.int i, .int j]) => (i, j)
    | _ => (0, 0)) = g
  rw [h]
theorem GsAt.prs {H : Hp} {B : Addr → Prop} {a : Addr} {ts : List Addr} {gs : List (Int × Int)} (h : GsAt H B a ts gs) : (ts.map V.ref).map (prOf H) = gs := by
  refine List.ext_getElem? fun i => ?_
  rw [List.getElem?_map]
  cases e : (ts.map V.ref)[i]? with
  | none =>
    have hl : (ts.map V.ref).length ≤ i := List.getElem?_eq_none_iff.mp e
    rw [List.length_map, h.len] at hl
    rw [List.getElem?_eq_none_iff.mpr hl]
    rfl
  | some x =>
    obtain ⟨t, g, rfl, eg, et⟩ := h.get e
    rw [eg]
    show some (prOf H (.ref t)) = some g
    rw [prOf_is et]
theorem GsAt.mem {H : Hp} {B : Addr → Prop} {a : Addr} {ts : List Addr} {gs : List (Int × Int)} (h : GsAt H B a ts gs) : ∀ x ∈ ts.map V.ref, ∃ t, x = V.ref t ∧ H t = some (.tup [.int (prOf H x).1, .int (prOf H x).2]) := fun x m => by
  obtain ⟨i, e⟩ := List.mem_iff_getElem?.mp m
  obtain ⟨t, g, rfl, eg, et⟩ := h.get e
  refine ⟨t, rfl, ?_⟩
  rw [prOf_is et]
  exact et
theorem sorted_prs {k : V → Int × Int} {ys xs : List V} {gs : List (Int × Int)} (f : Fit gs) (hx : xs.map k = gs) (hs : SrtO.Srtd (ltP k) ys) (hb : SrtO.Stb (ltP k) ys xs) : ys.reverse.map k = byAge gs := by
  refine byAge_of f ?_ ?_
  · rw [← hx]
    exact ((List.reverse_perm ys).trans hb.perm).map k
  · rw [List.map_reverse, List.pairwise_reverse, List.pairwise_map]
    refine hs.imp fun {a b} h => ?_
    have h' : SrtO.lexB (k b) (k a) = false := h
    rw [SrtO.lexB_no] at h'
    omega
theorem cut_1 (xs : List V) : cutV xs (some 1) none = xs.drop 1 := by
  unfold cutV
  rw [show HT.sIx xs.length 0 (some 1) = min 1 xs.length from HT.sIx_nat xs.length 0 1, HT.sIx_none]
  cases xs with
  | nil => rfl
  | cons x r =>
    rw [show min 1 (x :: r).length = 1 by
      rw [List.length_cons]
      omega]
    show (List.take ((x :: r).length - 1) r) = r
    rw [List.length_cons, Nat.add_sub_cancel]
    exact List.take_length
theorem lens_falls {gs : List (Int × Int)} (f : Fit gs) {i : Nat} {x y : Int} (h1 : (lens (settle gs))[i]? = some x) (h2 : ((lens (settle gs)).drop 1)[i]? = some y) : ¬ x < y := by
  rw [List.getElem?_drop] at h2
  unfold lens at h1 h2
  rw [List.getElem?_map] at h1 h2
  have hp := settleL_falls (byAge gs) f.byAge.pos
  cases e1 : (settle gs)[i]? with
  | none => rw [e1] at h1; cases h1
  | some r =>
    cases e2 : (settle gs)[1 + i]? with
    | none => rw [e2] at h2; cases h2
    | some s =>
      rw [e1] at h1
      rw [e2] at h2
      obtain rfl : (r.length : Int) = x := Option.some.inj h1
      obtain rfl : (s.length : Int) = y := Option.some.inj h2
      obtain ⟨l1, q1⟩ := List.getElem?_eq_some_iff.mp (show (settleL (byAge gs))[i]? = some r from e1)
      obtain ⟨l2, q2⟩ := List.getElem?_eq_some_iff.mp (show (settleL (byAge gs))[1 + i]? = some s from e2)
      have := List.pairwise_iff_getElem.mp hp i (1 + i) l1 l2 (by omega)
      rw [q1, q2] at this
      omega
theorem dget_pks {H : Hp} {d : Addr} {gs : List (Int × Int)} {g : Int × Int} (h : H d = some (.dK (pks gs))) (f : Fit gs) (m : g ∈ gs) : DGet H d (.int g.1) (some (.int g.2)) := by
  have q := DGet.k (k := Sum.inl g.1) h
  rw [pks_some f.nd m] at q
  exact q
theorem log_lt {m : Int} {k : Nat} (h0 : 0 < m) (h : m < 2 ^ k) : m.natAbs.log2 < k := by
  obtain ⟨j, rfl⟩ : ∃ j : Nat, m = j := ⟨m.toNat, by omega⟩
  have h' : j < 2 ^ k := by exact_mod_cast h
  rw [Int.natAbs_natCast]
  exact (Nat.log2_lt (by omega)).mpr h'
theorem GsAt.mix {H : Hp} {B B' : Addr → Prop} {a m : Addr} {ts : List Addr} {gs : List (Int × Int)} {ys : List V} (h : GsAt H B a ts gs) (e : H m = some (.lst ys)) (bm : B' m) (hb : ∀ b, B b → B' b) (p : ys.Perm (ts.map V.ref)) :
    ∃ ts' gs', GsAt H B' m ts' gs' ∧ gs'.Perm gs := by
  have hm : ∀ y ∈ ys, ∃ t, y = V.ref t ∧ t ∈ ts := fun y hy => by
    obtain ⟨t, ht, rfl⟩ := List.mem_map.mp (p.mem_iff.mp hy)
    exact ⟨t, rfl, ht⟩
  obtain ⟨us, rfl, hu⟩ : ∃ us : List Addr, ys = us.map V.ref ∧ ∀ u ∈ us, u ∈ ts := by
    clear p e
    induction ys with
    | nil => exact ⟨[], rfl, fun u hu => absurd hu (by simp)⟩
    | cons y ys ih =>
      obtain ⟨t, rfl, ht⟩ := hm y List.mem_cons_self
      obtain ⟨us, rfl, hu⟩ := ih fun z hz => hm z (List.mem_cons_of_mem _ hz)
      exact ⟨t :: us, rfl, fun u h => by
        rcases List.mem_cons.mp h with rfl | h
        · exact ht
        · exact hu u h⟩
  refine ⟨us, (us.map V.ref).map (prOf H), ⟨e, bm, by rw [List.length_map, List.length_map], fun i t g e1 e2 => ?_, fun t ht => hb t (h.b t (hu t ht))⟩, ?_⟩
  · rw [List.getElem?_map, List.getElem?_map, e1] at e2
    have e2' : prOf H (.ref t) = g := Option.some.inj e2
    obtain ⟨j, ej⟩ := List.mem_iff_getElem?.mp (hu t (List.mem_of_getElem? e1))
    obtain ⟨t', g', e3, eg, et⟩ := h.get (i := j) (x := .ref t) (by rw [List.getElem?_map, ej]; rfl)
    injection e3 with e3
    subst e3
    rw [prOf_is et] at e2'
    rw [← e2']
    exact et
  · have := p.map (prOf H)
    rw [h.prs] at this
    exact this
/-- put in anywhere -/
theorem GsAt.ins {H : Hp} {B : Addr → Prop} {a : Addr} {ts : List Addr} {gs : List (Int × Int)} {ys : List V} (h : GsAt H B a ts gs) (hn : a ∉ ts) {q : Addr} {g : Int × Int} (e : H q = some (.tup [.int g.1, .int g.2])) (bq : B q) (p : ys.Perm (ts.map V.ref ++ [.ref q])) :
    ∃ ts' gs', GsAt (upd H a (.lst ys)) B a ts' gs' ∧ gs'.Perm (gs ++ [g]) ∧ a ∉ ts' ∧ ys = ts'.map V.ref := by
  have nq : q ≠ a := fun z => by
    rw [z, h.top] at e
    cases e
  have hm : ∀ y ∈ ys, ∃ t, y = V.ref t ∧ t ∈ ts ++ [q] := fun y hy => by
    rcases List.mem_append.mp (p.mem_iff.mp hy) with m | m
    · obtain ⟨t, ht, rfl⟩ := List.mem_map.mp m
      exact ⟨t, rfl, List.mem_append_left _ ht⟩
    · exact ⟨q, List.mem_singleton.mp m, List.mem_append_right _ (List.mem_singleton.mpr rfl)⟩
  obtain ⟨us, rfl, hu⟩ : ∃ us : List Addr, ys = us.map V.ref ∧ ∀ u ∈ us, u ∈ ts ++ [q] := by
    clear p
    induction ys with
    | nil => exact ⟨[], rfl, fun u hu => absurd hu (by simp)⟩
    | cons y ys ih =>
      obtain ⟨t, rfl, ht⟩ := hm y List.mem_cons_self
      obtain ⟨us, rfl, hu⟩ := ih fun z hz => hm z (List.mem_cons_of_mem _ hz)
      exact ⟨t :: us, rfl, fun u h => by
        rcases List.mem_cons.mp h with rfl | h
        · exact ht
        · exact hu u h⟩
  have ha : ∀ u ∈ us, u ≠ a ∧ B u ∧ ∃ x : Int × Int, H u = some (.tup [.int x.1, .int x.2]) := fun u m => by
    rcases List.mem_append.mp (hu u m) with m | m
    · obtain ⟨j, ej⟩ := List.mem_iff_getElem?.mp m
      obtain ⟨t', g', e3, eg, et⟩ := h.get (i := j) (x := .ref u) (by rw [List.getElem?_map, ej]; rfl)
      injection e3 with e3
      subst e3
      exact ⟨fun z => hn (z ▸ m), h.b u m, g', et⟩
    · rw [List.mem_singleton.mp m]
      exact ⟨nq, bq, g, e⟩
  refine ⟨us, (us.map V.ref).map (prOf H), ⟨upd_same, h.ba, by rw [List.length_map, List.length_map], fun i t x e1 e2 => ?_, fun t m => (ha t m).2.1⟩, ?_, fun m => (ha a m).1 rfl, rfl⟩
  · rw [List.getElem?_map, List.getElem?_map, e1] at e2
    have e2' : prOf H (.ref t) = x := Option.some.inj e2
    obtain ⟨n1, _, y, ey⟩ := ha t (List.mem_of_getElem? e1)
    rw [prOf_is ey] at e2'
    subst e2'
    rw [upd_ne n1]
    exact ey
  · have := p.map (prOf H)
    rw [List.map_append, h.prs] at this
    rw [show [V.ref q].map (prOf H) = [g] by show [prOf H (.ref q)] = [g]; rw [prOf_is e]] at this
    exact this
theorem GsAt.cat {H : Hp} {B : Addr → Prop} {a l : Addr} {ts : List Addr} {gs : List (Int × Int)} (h : GsAt H B a ts gs) {q : Addr} {g : Int × Int} (e : H q = some (.tup [.int g.1, .int g.2])) (el : H l = some (.lst (ts.map V.ref ++ [.ref q]))) :
    GsAt H (fun _ => True) l (ts ++ [q]) (gs ++ [g]) := by
  refine ⟨by rw [List.map_append]; exact el, trivial, by rw [List.length_append, List.length_append, h.len]; rfl, fun i t x e1 e2 => ?_, fun _ _ => trivial⟩
  by_cases hi : i < ts.length
  · rw [List.getElem?_append_left hi] at e1
    rw [List.getElem?_append_left (by rw [← h.len]; exact hi)] at e2
    exact h.at' i t x e1 e2
  · have hi' : i = ts.length := by
      have := at_lt e1
      rw [List.length_append, List.length_singleton] at this
      omega
    subst hi'
    rw [List.getElem?_append_right (Nat.le_refl _), Nat.sub_self] at e1
    rw [h.len, List.getElem?_append_right (Nat.le_refl _), Nat.sub_self] at e2
    obtain rfl : q = t := Option.some.inj e1
    obtain rfl : g = x := Option.some.inj e2
    exact e
theorem inV_ints (x : Int) (ns : List Int) : inV (.int x) (ns.map V.int) = decide (x ∈ ns) := by
  unfold inV
  rw [List.any_map]
  induction ns with
  | nil => rfl
  | cons n ns ih =>
    rw [List.any_cons, ih]
    have e : ((fun y => eqV y (V.int x)) ∘ V.int) n = decide (x = n) := by
      show eqV (.int n) (.int x) = decide (x = n)
      have e2 : eqV (.int n) (.int x) = decide (n = x) := by
        unfold eqV
        first | rfl | simp
      rw [e2]
      by_cases h : n = x
      · subst h; simp
      · rw [decide_eq_false h, decide_eq_false (fun z => h z.symm)]
    rw [e]
    by_cases h : x = n
    · subst h
      simp
    · rw [decide_eq_false h, Bool.false_or]
      by_cases h2 : x ∈ ns
      · rw [decide_eq_true h2, decide_eq_true (List.mem_cons_of_mem _ h2)]
      · rw [decide_eq_false h2, decide_eq_false (fun z => (List.mem_cons.mp z).elim h h2)]
theorem flat_ints (ns : List Int) : (ns.map V.int).all flatV = true := by
  rw [List.all_map, List.all_eq_true]
  intro x _
  rfl
theorem eqvAll_ints : ∀ a b : List Int, PyData.eqvAll (a.map .int) (b.map .int) = decide (a = b)
  | [], [] => rfl
  | [], y :: b => by
    rw [decide_eq_false (by simp)]
    rfl
  | x :: a, [] => by
    rw [decide_eq_false (by simp)]
    rfl
  | x :: a, y :: b => by
    rw [List.map_cons, List.map_cons, PyData.eqvAll, eqvAll_ints a b]
    show ((x == y) && decide (a = b)) = _
    by_cases h : x = y
    · subst h
      by_cases h2 : a = b
      · subst h2
        simp
      · rw [decide_eq_false h2, decide_eq_false (fun z => h2 (List.cons.inj z).2)]
        simp
    · have : (x == y) = false := by simpa using h
      rw [this, decide_eq_false (fun z => h (List.cons.inj z).1)]
      rfl
theorem eqv_ints (a b : List Int) : PyData.eqv (dInts a) (dInts b) = decide (a = b) := by
  unfold dInts
  rw [PyData.eqv]
  exact eqvAll_ints a b
theorem cut_at (xs : List V) (k : Nat) : cutV xs (some (k : Int)) (some ((k : Int) + 1)) = (xs.drop k).take 1 := by
  unfold cutV
  rw [HT.sIx_nat, show (k : Int) + 1 = ((k + 1 : Nat) : Int) by omega, HT.sIx_nat]
  by_cases h : k < xs.length
  · rw [Nat.min_eq_left (by omega), Nat.min_eq_left (by omega), Nat.add_sub_cancel_left]
  · have h1 : min k xs.length = xs.length := by omega
    have h2 : min (k + 1) xs.length = xs.length := by omega
    rw [h1, h2, Nat.sub_self, List.take_zero, List.drop_of_length_le (show xs.length ≤ k by omega)]
    rfl
theorem drop_take1 (L : List Int) (k : Nat) : (L.drop k).take 1 = L[k]?.toList := by
  by_cases h : k < L.length
  · rw [List.getElem?_eq_getElem h, List.drop_eq_getElem_cons h]
    rfl
  · rw [List.getElem?_eq_none (by omega), List.drop_of_length_le (by omega)]
    rfl
end El
namespace El
open PySem PySem.Spec PyProof.Rows L2
section
variable {X : Cx}
/-- the walk over a list -/
theorem gathers_list {pins : List (Addr × Obj)} {σ : L2.St} {H : Hp} {s : Shared} {a : Addr} {xs : List V} (I : Inv X pins σ H s) (h : SqL X.K H a xs) : xs.length ≤ sizeLine ∧ Gathers X s (.ref a) xs := by
  have ⟨us, r, ⟨o, n, at_a, is_list, _, data⟩, few⟩ := I.list h
  refine ⟨few, fun R go => wpAny_collect_seq a (.inl rfl) at_a is_list data (fun h' grown => ?_) ?_⟩
  · rw [List.toList_toArray]
    exact go us h' s.toks r grown
  · rw [List.size_toArray]
    exact r.length ▸ few
/-- a value that is an object's name, seen as ours -/
def asOurs : Value → V
  | .ref a => .ref a
  | _ => .non
/-- sorted(xs, reverse=b) of a list of pairs of ints -/
def rSortedPK (K : PySem.W.Frag) (b : Bool) : List V → List V → Hp → VK → Prop := fun vs zs H Q => ∃ (a : Addr) (xs : List V) (k : V → Int × Int), vs = [V.ref a] ∧ zs = [.bl b] ∧ SqL K H a xs ∧ (∀ x ∈ xs, ∃ t, x = V.ref t ∧ H t = some (.tup [.int (k x).1, .int (k x).2])) ∧
  ∀ ys p, SrtO.Srtd (ltP k) ys → ys.Perm xs → H p = none → Q (.ref p) (upd H p (.lst (if b = true then ys.reverse else ys)))
theorem cr_sortedPK {b : Bool} (_ : X.calm = true) : CallRK X (.builtin "sorted") [Str.ofString "reverse"] (rSortedPK X.K b) := by
  rintro pins s σ H _ _ us ws Q I one by_kw ⟨a, xs, k, rfl, rfl, here, pairs, q⟩
  obtain ⟨v, w, rfl, rfl, rfl, rfl⟩ : ∃ v w, us = [v] ∧ ws = [w] ∧ v = .ref a ∧ w = .bool b := by
    cases one with | cons e1 t1 => cases t1; cases by_kw with | cons e2 t2 => cases t2; exact ⟨_, _, rfl, rfl, e1, e2⟩
  have ⟨few, walk⟩ := gathers_list I here
  have known : ∀ {x : V} {u : Value}, x ∈ xs → RelV x u → asOurs u = x := fun {x u} m e => by
    have ⟨t, ex, _⟩ := pairs x m
    subst ex
    exact congrArg asOurs e
  refine sorted_gathered I few walk (SrtO.swo_lex fun u => k (asOurs u)) (fun us s' l two r J free => ?_) fun P l hP perm up free => ?_
  · refine SrtO.pairs_sortableO (k := fun u => k (asOurs u)) (Nat.lt_of_lt_of_le Nat.two_pos two) (fun u m => ?_) fun o at_l => ?_
    · obtain ⟨P, hP, rfl, rfl⟩ := partners_of r
      have ⟨⟨x, u⟩, mp, eu⟩ := List.mem_map.mp m
      subst eu
      have mx := List.mem_map_of_mem (f := Prod.fst) mp
      have ⟨t, ex, ht⟩ := pairs x mx
      have apart : t ≠ l := fun e => by rw [e, free] at ht; cases ht
      have ⟨_, vs, rv, o, at_t, is_tup, n, data⟩ := J.hok t _ ((upd_ne apart).trans ht)
      rw [known mx (hP _ mp)]
      cases rv with | cons e1 rv => cases rv with | cons e2 rv => cases rv; exact e1.elim fun t1 e1 => e2.elim fun t2 e2 => ⟨t, o, t1, t2, n, by have := hP _ mp; rw [show (x, u).1 = V.ref t from ex] at this; exact this, at_t, is_tup, by rw [data, e1, e2]⟩
    · have ⟨_, vs, e, _, there⟩ := J.hok l _ upd_same
      rw [there] at at_l
      cases at_l
      have differ : Value.type "list" ≠ Value.type "tuple" := by decide
      exact differ
  · have sorts : SrtO.Srtd (ltP k) (P.map Prod.fst) := by
      rw [SrtO.Srtd, List.pairwise_map] at up ⊢
      refine up.imp_of_mem fun {p p'} m m' h => ?_
      have on := fun {p : V × Value} (m : p ∈ P) => known (perm.mem_iff.mp (List.mem_map_of_mem (f := Prod.fst) m)) (hP p m)
      rw [on m, on m'] at h
      exact h
    exact q _ l sorts perm free
/-- sorted by age and patience, turned round: from the eldest on -/
theorem sorted_down {k : V → Int × Int} {ys xs : List V} {gs : List (Int × Int)} (f : Fit gs) (hx : xs.map k = gs) (hs : SrtO.Srtd (ltP k) ys) (hb : ys.Perm xs) : ys.reverse.map k = byAge gs := by
  refine byAge_of f ?_ ?_
  · rw [← hx]
    exact ((List.reverse_perm ys).trans hb).map k
  · rw [List.map_reverse, List.pairwise_reverse, List.pairwise_map]
    refine hs.imp fun {a b} h => ?_
    have h' : SrtO.lexB (k b) (k a) = false := h
    rw [SrtO.lexB_no] at h'
    omega
end
end El
namespace El
open PySem PySem.Spec PyProof.Rows L2
section
variable {X : Cx}
/-- len of a set of ints -/
theorem call_lenSI : CallR X (.builtin "len") (fun xs H Q => ∃ (a : Addr) (S : Int → Bool) (n : Nat), xs = [V.ref a] ∧ H a = some (SetO X.w a S n) ∧ n ≤ 100000 ∧ Q (.int n) H) := by
  intro pins s σ H xs us Q I r h
  obtain ⟨a, S, n, rfl, ha, hn, q⟩ := h
  rw [Vals.ref1 r]
  obtain ⟨o, es, ep, t, ho, hex, hd, _, _, _, hf, he⟩ := (setO_get I ha).setOf (P := X.prog)
  refine call_len_set ho hex hd hf (by rw [he]; exact Int.lt_of_le_of_lt (show (n : Int) ≤ 100000 by omega) (by decide)) ⟨.int n, H, I.tok _, ⟨_, by rw [he]⟩, q⟩
end
theorem piListK {X : Cx} {tg l : Expr} {tl : TE} (K : PySem.W.Frag) (hl : PE X l tl) (e : X.K = K := by rfl) : PI X tg l (iList K tl) := by
  subst e
  exact pi_list hl
/-- the outer walk of a comprehension with two fors, and the inner one -/
theorem out_it {J : It} {n : Nat} {G : Hp → Prop} {Y : Nat → Hp → V → Hp → Prop} (w : Walk J n G Y) {Qd : Hp → Prop} {H0 : Hp} {bd : (Hp → Prop) → V → Hp → Prop} (Pv : Nat → Hp → Prop) (h0 : Pv 0 H0) (hG : ∀ i H, i ≤ n → Pv i H → G H)
    (hs : ∀ i x H H', i < n → Pv i H → Y i H x H' → bd (Pv (i + 1)) x H') (hd : ∀ H, Pv n H → Qd H) :
    ∃ W : Nat → Nat → Hp → Prop, (∃ m, W 0 m H0) ∧ ∀ i m H, W i m H → (J.stop i H ∧ Qd H) ∨ (J.go i H ∧ ∃ Nx : Hp → Prop, (∀ H', Nx H' → ∃ m', m' < m ∧ W (i + 1) m' H') ∧ ∀ x H', J.yld i H x H' → bd Nx x H') := by
  refine ⟨fun i m H => m = n - i ∧ i ≤ n ∧ Pv i H, ⟨n, by simp, Nat.zero_le _, h0⟩, ?_⟩
  rintro i m H ⟨rfl, hi, p⟩
  have q := hG i H hi p
  by_cases hlt : i < n
  · exact .inr ⟨w.goes i H hlt q, Pv (i + 1), fun H' p' => ⟨n - (i + 1), by omega, rfl, hlt, p'⟩, fun x H' y => hs i x H H' hlt p (w.yields i H x H' hlt q y)⟩
  · have e : i = n := by omega
    subst e
    exact .inl ⟨w.stops H q, hd H p⟩
theorem cut_from (xs : List V) (j : Nat) : cutV xs (some (j : Int)) none = xs.drop j := by
  unfold cutV
  rw [HT.sIx_none, HT.sIx_nat]
  show (List.drop (min j xs.length) xs).take (xs.length - min j xs.length) = _
  by_cases h : j ≤ xs.length
  · rw [Nat.min_eq_left h, List.take_of_length_le (by rw [List.length_drop]; omega)]
  · rw [Nat.min_eq_right (by omega), List.drop_of_length_le (Nat.le_refl _), List.drop_of_length_le (show xs.length ≤ j by omega), List.take_nil]
/-- a list of lists of ints, read alone -/
structure RdAt (H : Hp) (o : Addr) (ts : List Addr) (rs : List (List Int)) : Prop where
  top : H o = some (.lst (ts.map V.ref))
  len : ts.length = rs.length
  at' : ∀ (i : Nat) (t : Addr) (r : List Int), ts[i]? = some t → rs[i]? = some r → H t = some (.lst (r.map V.int))
theorem RdAt.same {H H' : Hp} {a : Addr} {ts : List Addr} {rs : List (List Int)} (h : RdAt H a ts rs) (k : Same H H') : RdAt H' a ts rs :=
  ⟨k _ _ h.top, h.len, fun i t g e f => k _ _ (h.at' i t g e f)⟩
theorem RdAt.seq {K : PySem.W.Frag} {H : Hp} {a : Addr} {ts : List Addr} {rs : List (List Int)} (h : RdAt H a ts rs) : SqL K H a (ts.map V.ref) := SqL.of h.top
theorem RmsAt.rd {H : Hp} {B : Addr → Prop} {a : Addr} {ts : List Addr} {rs : List (List Int)} (h : RmsAt H B a ts rs) : RdAt H a ts rs := ⟨h.top, h.len, h.at'⟩
theorem RdAt.get {H : Hp} {a : Addr} {ts : List Addr} {rs : List (List Int)} (h : RdAt H a ts rs) {i : Nat} {x : V} (e : (ts.map V.ref)[i]? = some x) : ∃ t r, x = .ref t ∧ ts[i]? = some t ∧ rs[i]? = some r ∧ H t = some (.lst (r.map V.int)) := by
  obtain ⟨t, e1, rfl⟩ := refs_at e
  have hi := at_lt e1
  rw [h.len] at hi
  obtain ⟨g, e2⟩ := at_some hi
  exact ⟨t, g, rfl, e1, e2, h.at' i t g e1 e2⟩
theorem pks_get {gs : List (Int × Int)} (nd : (gs.map (·.1)).Nodup) {a : Int} (m : a ∈ gs.map (·.1)) : valV (pks gs) (Sum.inl a) = some (.int (pof gs a)) := by
  obtain ⟨g, hg, rfl⟩ := List.mem_map.mp m
  rw [pks_some nd hg, pof_is nd hg]
theorem dget_pof {H : Hp} {d : Addr} {gs : List (Int × Int)} (h : H d = some (.dK (pks gs))) (nd : (gs.map (·.1)).Nodup) {a : Int} (m : a ∈ gs.map (·.1)) : DGet H d (.int a) (some (.int (pof gs a))) := by
  have z := DGet.k (k := Sum.inl a) h
  rw [pks_get nd m] at z
  exact z
theorem take_snoc_flat {rs : List (List Int)} {i : Nat} {r : List Int} (e : rs[i]? = some r) : (rs.take (i + 1)).flatten = (rs.take i).flatten ++ r := by
  rw [take_snoc e, List.flatten_append, List.flatten_cons, List.flatten_nil, List.append_nil]
theorem flat_split {rs : List (List Int)} {i j : Nat} {r : List Int} {a : Int} (nd : rs.flatten.Nodup) (e : rs[i]? = some r) (e2 : r[j]? = some a) : a ∉ (rs.take i).flatten ++ r.take j := by
  have h1 : rs.flatten = (rs.take i).flatten ++ (r ++ (rs.drop (i + 1)).flatten) := by
    have hi := at_lt e
    have h2 : rs = rs.take i ++ r :: rs.drop (i + 1) := by
      have := List.getElem_cons_drop (as := rs) (i := i) hi
      rw [List.getElem?_eq_getElem hi] at e
      rw [Option.some.inj e] at this
      rw [this, List.take_append_drop]
    rw [congrArg List.flatten h2, List.flatten_append, List.flatten_cons]
  have h3 : r = r.take j ++ a :: r.drop (j + 1) := by
    have hj := at_lt e2
    have := List.getElem_cons_drop (as := r) (i := j) hj
    rw [List.getElem?_eq_getElem hj] at e2
    rw [Option.some.inj e2] at this
    rw [this, List.take_append_drop]
  rw [h1] at nd
  generalize (rs.take i).flatten = x at nd ⊢
  generalize (rs.drop (i + 1)).flatten = y at nd
  rw [h3] at nd
  obtain ⟨_, n2, n3⟩ := List.nodup_append.mp nd
  intro m
  rcases List.mem_append.mp m with m | m
  · exact n3 a m a (List.mem_append_left _ (List.mem_append_right _ List.mem_cons_self)) rfl
  · obtain ⟨n4, _, _⟩ := List.nodup_append.mp n2
    obtain ⟨_, _, n7⟩ := List.nodup_append.mp n4
    exact n7 a m a List.mem_cons_self rfl
theorem flat_mem {rs : List (List Int)} {i j : Nat} {r : List Int} {a : Int} (e : rs[i]? = some r) (e2 : r[j]? = some a) : a ∈ rs.flatten :=
  List.mem_flatten.mpr ⟨r, List.mem_of_getElem? e, List.mem_of_getElem? e2⟩
end El
namespace El
/-! ### in peace, by counting -/
theorem upIn_iff {pf : Int → Int} : ∀ {l : List Int} {k : Nat}, upIn pf l k = none ↔ ∀ (i : Nat) (a : Int), l[i]? = some a → ((i + k : Nat) : Int) ≤ pf a
  | [], _ => ⟨fun _ i a e => by simp at e, fun _ => rfl⟩
  | x :: l, k => by
    constructor
    · intro h
      unfold upIn at h
      by_cases q : pf x < (k : Int)
      · rw [if_pos q] at h
        cases h
      · rw [if_neg q] at h
        intro i a e
        cases i with
        | zero =>
          obtain rfl : x = a := Option.some.inj e
          omega
        | succ i =>
          have := (upIn_iff.mp h) i a (by simpa using e)
          omega
    · exact upIn_none
theorem upsetOf_iff {gs : List (Int × Int)} : ∀ {rs : List (List Int)} {k : Nat}, upsetOf gs rs k = none ↔ ∀ r ∈ rs, eldUp gs r = none
  | [], _ => ⟨fun _ r m => absurd m List.not_mem_nil, fun _ => rfl⟩
  | r :: rs, k => by
    constructor
    · intro h
      unfold upsetOf at h
      cases e : eldUp gs r with
      | some a => rw [e] at h; cases h
      | none =>
        rw [e] at h
        intro s m
        rcases List.mem_cons.mp m with rfl | m
        · exact e
        · exact (upsetOf_iff.mp h) s m
    · exact upsetOf_none
theorem above_ix : ∀ {l : List Int} {i : Nat} {a : Int}, l.Pairwise (· > ·) → l[i]? = some a → (l.filter fun b => decide (a < b)).length = i
  | [], i, a, _, e => by simp at e
  | x :: l, 0, a, h, e => by
    obtain rfl : x = a := Option.some.inj e
    obtain ⟨h1, _⟩ := List.pairwise_cons.mp h
    rw [List.filter_cons_of_neg (by simp), List.filter_eq_nil_iff.mpr fun b hb => by
      have := h1 b hb
      simp only [decide_eq_true_eq]
      omega]
    rfl
  | x :: l, i + 1, a, h, e => by
    obtain ⟨h1, h2⟩ := List.pairwise_cons.mp h
    have e' : l[i]? = some a := by simpa using e
    have := h1 a (List.mem_of_getElem? e')
    rw [List.filter_cons_of_pos (by simp only [decide_eq_true_eq]; omega), List.length_cons, above_ix h2 e']
def above (r : List Int) (a : Int) : List Int := r.filter fun b => decide (a < b)
theorem down_strict {r : List Int} (nd : r.Nodup) : (down r).Pairwise (· > ·) := by
  have h1 := down_sorted r
  have h2 : (down r).Nodup := ((down_perm r).nodup_iff).mpr nd
  have h3 := h1.and h2
  exact h3.imp fun {a b} h => by
    have := h.1
    have := h.2
    omega
theorem eldUp_iff {gs : List (Int × Int)} {r : List Int} (nd : r.Nodup) : eldUp gs r = none ↔ ∀ a ∈ r, ((above r a).length : Int) ≤ pof gs a := by
  have hl : ∀ a, (above r a).length = ((down r).filter fun b => decide (a < b)).length := fun a => (((down_perm r).filter _).length_eq).symm
  unfold eldUp
  rw [upIn_iff]
  constructor
  · intro h a m
    obtain ⟨i, e⟩ := List.mem_iff_getElem?.mp ((down_perm r).mem_iff.mpr m)
    have := h i a e
    rw [hl, above_ix (down_strict nd) e]
    omega
  · intro h i a e
    have := h a ((down_perm r).mem_iff.mp (List.mem_of_getElem? e))
    rw [hl, above_ix (down_strict nd) e] at this
    omega
theorem flat_nd {rs : List (List Int)} (nd : rs.flatten.Nodup) {r : List Int} (m : r ∈ rs) : r.Nodup := (List.pairwise_flatten.mp nd).1 r m
def full (rs : List (List Int)) : List (List Int) := rs.filter fun r => !r.isEmpty
def lensD (rs : List (List Int)) : List Int := (full rs).map fun r => (r.length : Int)
/-- in peace and as good as can be -/
def bestB (gs : List (Int × Int)) (rs : List (List Int)) : Bool := decide (upsetOf gs rs 0 = none) && decide (down (lensD rs) = (settle gs).map fun r => (r.length : Int))
end El
namespace El
open PySem PySem.Spec PyProof.Rows L2
section
variable {X : Cx}
theorem ptTruthK {a : Expr} {ta : TE} (K : PySem.W.Frag) (ha : PE X a ta) (he : ∀ whole, isTrue a X.env whole = (do let v ← whole; standAt a.pos; holding [v] (truthy v))) (e : X.K = K := by rfl) :
    PT X a (tTru K ta) := by
  subst e
  exact pt_truth ha he
/-! ### xs[::s], s 1 or -1 -/
def tStepL (K : PySem.W.Frag) (te ts : TE) : TE := fun σ H Q => te σ H fun x H1 => ts σ H1 fun y H2 => ∃ c, y = .int c ∧ ∃ a xs, x = .ref a ∧ (c = 1 ∨ c = -1) ∧ SqL K H2 a xs ∧ ∀ p, H2 p = none → Q (.ref p) (upd H2 p (.lst (if c = 1 then xs else xs.reverse)))
/-- what such a cut picks -/
theorem pick_way (us : List Value) {c : Int} (h : c = 1 ∨ c = -1) : slicePick us.toArray none none (some c) = (if c = 1 then us else us.reverse).toArray := by
  rcases h with rfl | rfl
  · show slicePick us.toArray none none none = _
    rw [slicePick_cut, HT.sIx_none, HT.sIx_none, List.drop_zero, Nat.sub_zero, List.take_length]
    rfl
  · exact PySem.W.krv_pick us.toArray
/-- a cut lies there that names its step alone -/
def StepAt (s : Shared) (i : Value) (c : Int) : Prop := ∃ p u, i = .ref p ∧ s.heap.IsSliceOf p .none .none (.int c u)
theorem step_made {st : Expr} {ts : TE} {p : Pos} {pins : List (Addr × Obj)} {σ : L2.St} {H : Hp} {s : Shared} {R : Value → Shared → Prop} {D : Int → Hp → Prop} (hs : PE X st ts) (I : Inv X pins σ H s)
    (h : ts σ H fun y H' => ∃ c, y = .int c ∧ D c H') (go : ∀ c H' i s', Inv X pins σ H' s' → StepAt s' i c → D c H' → R i s') : wpAny (model X.prog X.w) X.A (eval (.Slice none none (some st) p) X.env) R X.xe s := by
  refine wpAny_Slice (wpAny_pure (wpAny_pure (thn (hs.run pins s σ H _ I h) ?_)))
  rintro _ s' ⟨_, H', J, e, c, rfl, d⟩
  obtain ⟨u, rfl⟩ : ∃ u, _ = Value.int c u := e
  exact go c H' _ _ (J.kept (t' := s'.toks) fun _ _ => Heap.get?_push_of_some _) ⟨_, u, rfl, .new ..⟩ d
theorem list_cut {pins : List (Addr × Obj)} {σ : L2.St} {H : Hp} {s : Shared} {Q : VK} {a : Addr} {xs : List V} {i : Value} {c : Int} (I : Inv X pins σ H s) (here : SqL X.K H a xs) (cut : StepAt s i c) (h : c = 1 ∨ c = -1)
    (q : ∀ p, H p = none → Q (.ref p) (upd H p (.lst (if c = 1 then xs else xs.reverse)))) : wpAny (model X.prog X.w) X.A (getItem (.ref a) i) (EP X pins σ Q) X.xe s := by
  have ⟨us, r, at_a, few⟩ := I.list here
  have ⟨_, _, e, at_i⟩ := cut
  subst e
  have fits : us.toArray.size ≤ sizeLine := Nat.le_trans (Nat.le_of_eq (us.size_toArray.trans r.length.symm)) few
  have turned : Vals (if c = 1 then xs else xs.reverse) (if c = 1 then us else us.reverse) := by
    split
    · exact r
    · exact r.reverse
  have same : (if c = 1 then xs else xs.reverse).length = xs.length := by
    split
    · rfl
    · exact xs.length_reverse
  refine wpAny_getItem_list_slice at_a.isList at_i .none .none (.int c _) (fun z => by rcases h with rfl | rfl <;> cases z) ?_ fits
  rw [pick_way us h]
  have J := I.laid (a := s.heap.objs.size) (o := .lst (if c = 1 then xs else xs.reverse)) (t' := s.toks) (fun _ _ => Heap.get?_push_of_some _) (Nat.le_refl _) ⟨same ▸ few, _, 0, turned, Heap.get?_push_size _ rfl⟩
  exact ⟨.ref _, _, J, rfl, q _ (I.hok.fresh (Nat.le_refl _))⟩
theorem pe_stepL {e st : Expr} {te ts : TE} {p3 pos : Pos} (he : PE X e te) (hs : PE X st ts) : PE X (.Subscript e (.Slice none none (some st) p3) pos) (tStepL X.K te ts) where
  run pins s σ H Q I h := by
    refine Subscript_ (thn (he.run pins s σ H _ I h) ?_)
    rintro v s1 ⟨x, H1, J1, r, more⟩
    refine step_made hs J1 more ?_
    rintro c H2 i s2 J2 cut ⟨a, xs, rfl, way, here, q⟩
    cases r
    have ⟨_, _, at_a, _⟩ := J2.list here
    exact tail_any (ops := [.ref a, i]) at_a.isList.typeIs PySem.slot_list_getitem.lookup (list_cut J2 here cut way q) (by have ⟨_, _, e, _⟩ := cut; subst e; with_unfolding_all rfl)
end
theorem mergeK_pks {gs : List (Int × Int)} (nd : (gs.map (·.1)).Nodup) : mergeK [] (pks gs) = pks gs := by
  suffices h : ∀ (n : Nat), n ≤ gs.length → mergeK [] (pks (gs.take n)) = pks (gs.take n) by
    have := h gs.length (Nat.le_refl _)
    rw [take_full] at this
    exact this
  intro n
  induction n with
  | zero =>
    intro _
    rw [List.take_zero]
    rfl
  | succ n ih =>
    intro hn
    obtain ⟨g, eg⟩ := at_some hn
    have ht : (gs.take n).map (·.1) = (gs.map (·.1)).take n := List.map_take
    have no : g.1 ∉ (gs.take n).map (·.1) := fun m => by
      rw [ht] at m
      have e : (gs.map (·.1))[n]? = some g.1 := by rw [List.getElem?_map, eg]; rfl
      obtain ⟨i, hi⟩ := List.mem_iff_getElem?.mp m
      rw [List.getElem?_take] at hi
      split at hi
      · have := nd_ix nd hi e
        omega
      · cases hi
    rw [take_snoc eg]
    unfold mergeK at ih ⊢
    rw [pks_snoc, List.foldl_append, ih (by omega)]
    show putK (pks (gs.take n)) (Sum.inl g.1) (V.int g.2) = _
    rw [putK_snoc no, pks_snoc]
theorem GsAt.paired {K : PySem.W.Frag} {H : Hp} {B : Addr → Prop} {a : Addr} {ts : List Addr} {gs : List (Int × Int)} (h : GsAt H B a ts gs) : Paired (fun p kv => SqT K H p [kV kv.1, kv.2]) ts (pks gs) := by
  have hl := h.len
  have ha := h.at'
  clear h
  induction ts generalizing gs with
  | nil =>
    cases gs with
    | nil => exact .nil
    | cons g gs => simp at hl
  | cons t ts ih =>
    cases gs with
    | nil => simp at hl
    | cons g gs =>
      refine .cons (SqT.of (ha 0 t g rfl rfl)) (ih (gs := gs) (by simpa using hl) fun i t' g' e1 e2 => ha (i + 1) t' g' (by simpa using e1) (by simpa using e2))
theorem RdAt.of {H : Hp} {a : Addr} {ts : List Addr} {rs : List (List Int)} (h : RdAt H a ts rs) {i : Nat} {r : List Int} (e : rs[i]? = some r) : ∃ t, ts[i]? = some t ∧ H t = some (.lst (r.map V.int)) := by
  have hi := at_lt e
  rw [← h.len] at hi
  obtain ⟨t, e2⟩ := at_some hi
  exact ⟨t, e2, h.at' i t r e2 e⟩
theorem flat_in {rs : List (List Int)} {r : List Int} (m : r ∈ rs) : r.length ≤ rs.flatten.length := room_le_flat rs r m
theorem full_snoc {rs : List (List Int)} {i : Nat} {r : List Int} (e : rs[i]? = some r) : lensD (rs.take (i + 1)) = if r = [] then lensD (rs.take i) else lensD (rs.take i) ++ [(r.length : Int)] := by
  unfold lensD full
  rw [take_snoc e, List.filter_append]
  cases r with
  | nil => rw [List.filter_cons_of_neg (by simp), List.filter_nil, List.append_nil, if_pos rfl]
  | cons x r => rw [List.filter_cons_of_pos (by simp), List.filter_nil, List.map_append, if_neg (by simp)]; rfl
theorem lensD_len (rs : List (List Int)) : (lensD rs).length ≤ rs.length := by
  unfold lensD full
  rw [List.length_map]
  exact List.length_filter_le _ _
end El
namespace El
open PySem PySem.Spec PyProof.Rows L2
/-- [f(a, b) for a, b in gs], pairs of ints to ints -/
theorem lc_prs {K : PySem.W.Frag} {B : Addr → Prop} {a D : Addr} {ts : List Addr} {gs : List (Int × Int)} {i j : Nat} {te : TE} {vs : List Nat} {σ : L2.St} {H1 : Hp} {Qd : Hp → Prop} (f : Int × Int → Int) (hG : GsAt H1 B a ts gs) (hD : H1 D = none) (hl : gs.length ≤ 1000)
    (he : ∀ (z : Int × Int) (H' : Hp), z ∈ gs → Same H1 H' → ∀ Q : VK, Q (.int (f z)) H' → te (((wipe σ vs).set i (some (.int z.1))).set j (some (.int z.2))) H' Q) (hw : ∀ z : Int × Int, wipe (((wipe σ vs).set i (some (.int z.1))).set j (some (.int z.2))) vs = wipe σ vs)
    (hd : ∀ H2, Same H1 H2 → H2 D = some (.lst ((gs.map f).map V.int)) → Qd H2) :
    ∃ W : Nat → Nat → Hp → Prop, (∃ m, W 0 m (upd H1 D (.lst []))) ∧ ∀ k m H, W k m H →
      ((Itl K a).stop k H ∧ Qd H) ∨ ((Itl K a).go k H ∧ ∃ Nx : Hp → Prop, (∀ H', Nx H' → ∃ m', m' < m ∧ W (k + 1) m' H') ∧ ∀ x H', (Itl K a).yld k H x H' → gTup K 2 (gCons (gName i) (gCons (gName j) gNil)) x (wipe σ vs) H' fun σ2 H2 => wipe σ2 vs = wipe σ vs ∧ tYes σ2 H2 fun b H3 =>
        if b = true then te σ2 H3 fun y H4 => ∃ acc, H4 D = some (.lst acc) ∧ acc.length < sizeLine ∧ Nx (upd H4 D (.lst (acc ++ [y]))) else Nx H3) := by
  refine lc_it (walk_list (xs := ts.map V.ref)) (fun k H2 => Same H1 H2 ∧ H2 D = some (.lst (((gs.take k).map f).map V.int))) ⟨same_new hD, upd_same⟩ (fun k H2 _ hW => ?_) (fun k x H2 H3 hk hW hY => ?_) (fun H2 hW => ?_)
  · exact (hG.same hW.1).seq
  · obtain ⟨sm, e⟩ := hW
    obtain ⟨rfl, hx⟩ := hY
    obtain ⟨t, z, rfl, ez, et⟩ := (hG.same sm).get hx
    refine ⟨t, _, rfl, SqT.of et, rfl, .int z.1, _, rfl, .int z.2, _, rfl, rfl, ?_⟩
    refine ⟨hw z, he z H3 (List.mem_of_getElem? ez) sm _ ⟨_, e, ils (by rw [List.length_map, List.length_map, List.length_take]; omega), Same.mut sm hD, ?_⟩⟩
    rw [upd_same, take_snoc ez, List.map_append, List.map_append]
    rfl
  · obtain ⟨sm, e⟩ := hW
    rw [List.length_map, hG.len, take_full] at e
    exact hd H2 sm e
theorem GsAt.top' {H : Hp} {B : Addr → Prop} {a : Addr} {ts : List Addr} {gs : List (Int × Int)} (h : GsAt H B a ts gs) {b : Addr} (e : H b = some (.lst (ts.map V.ref))) : GsAt H (fun _ => True) b ts gs := ⟨e, trivial, h.len, h.at', fun _ _ => trivial⟩
/-- a pair of a list of pairs, by its place -/
theorem GsAt.at_ {H : Hp} {B : Addr → Prop} {a : Addr} {ts : List Addr} {gs : List (Int × Int)} (h : GsAt H B a ts gs) {i : Nat} {g : Int × Int} (e : gs[i]? = some g) : ∃ t, (ts.map V.ref)[i]? = some (.ref t) ∧ H t = some (.tup [.int g.1, .int g.2]) := by
  have hl := at_lt e
  rw [← h.len] at hl
  obtain ⟨t, e2⟩ := at_some hl
  exact ⟨t, by rw [List.getElem?_map, e2]; rfl, h.at' i t g e2 e⟩
theorem pick2 {P : Int → Prop} {a b r : Int} (h0 : 0 ≤ r) (h1 : r < 2) (pa : P a) (pb : P b) : ∃ v : Int, atI [V.int a, .int b] r = some (.int v) ∧ P v := by
  obtain ⟨v, hv, mv⟩ := at_pick (xs := [V.int a, .int b]) h0 h1
  rcases List.mem_cons.mp mv with rfl | mv
  · exact ⟨_, hv, pa⟩
  · obtain rfl := List.mem_singleton.mp mv
    exact ⟨_, hv, pb⟩
theorem pick3 {P : Int → Prop} {a b c r : Int} (h0 : 0 ≤ r) (h1 : r < 3) (pa : P a) (pb : P b) (pc : P c) : ∃ v : Int, atI [V.int a, .int b, .int c] r = some (.int v) ∧ P v := by
  obtain ⟨v, hv, mv⟩ := at_pick (xs := [V.int a, .int b, .int c]) h0 h1
  rcases List.mem_cons.mp mv with rfl | mv
  · exact ⟨_, hv, pa⟩
  rcases List.mem_cons.mp mv with rfl | mv
  · exact ⟨_, hv, pb⟩
  · obtain rfl := List.mem_singleton.mp mv
    exact ⟨_, hv, pc⟩
theorem pick4 {P : Int → Prop} {a b c d r : Int} (h0 : 0 ≤ r) (h1 : r < 4) (pa : P a) (pb : P b) (pc : P c) (pd : P d) : ∃ v : Int, atI [V.int a, .int b, .int c, .int d] r = some (.int v) ∧ P v := by
  obtain ⟨v, hv, mv⟩ := at_pick (xs := [V.int a, .int b, .int c, .int d]) h0 h1
  rcases List.mem_cons.mp mv with rfl | mv
  · exact ⟨_, hv, pa⟩
  rcases List.mem_cons.mp mv with rfl | mv
  · exact ⟨_, hv, pb⟩
  rcases List.mem_cons.mp mv with rfl | mv
  · exact ⟨_, hv, pc⟩
  · obtain rfl := List.mem_singleton.mp mv
    exact ⟨_, hv, pd⟩
theorem pickL {P : Int → Prop} {L : List Int} {r : Int} (h0 : 0 ≤ r) (h1 : r < L.length) (p : ∀ x ∈ L, P x) : ∃ v : Int, atI (L.map V.int) r = some (.int v) ∧ P v := by
  obtain ⟨v, hv, mv⟩ := at_pick (xs := L.map V.int) h0 (by rw [List.length_map]; exact h1)
  obtain ⟨x, mx, rfl⟩ := List.mem_map.mp mv
  exact ⟨x, hv, p x mx⟩
/-- pairs that stand at these, whatever list tells them -/
structure Prs (H : Hp) (ts : List Addr) (gs : List (Int × Int)) : Prop where
  len : ts.length = gs.length
  at' : ∀ (i : Nat) (t : Addr) (g : Int × Int), ts[i]? = some t → gs[i]? = some g → H t = some (.tup [.int g.1, .int g.2])
theorem GsAt.pr {H : Hp} {B : Addr → Prop} {a : Addr} {ts : List Addr} {gs : List (Int × Int)} (h : GsAt H B a ts gs) : Prs H ts gs := ⟨h.len, h.at'⟩
theorem Prs.gs {H : Hp} {a : Addr} {ts : List Addr} {gs : List (Int × Int)} (h : Prs H ts gs) (e : H a = some (.lst (ts.map V.ref))) : GsAt H (fun _ => True) a ts gs := ⟨e, trivial, h.len, h.at', fun _ _ => trivial⟩
theorem Prs.same {H H' : Hp} {ts : List Addr} {gs : List (Int × Int)} (h : Prs H ts gs) (k : Same H H') : Prs H' ts gs := ⟨h.len, fun i t g e f => k _ _ (h.at' i t g e f)⟩
theorem Prs.nil {H : Hp} : Prs H [] [] := ⟨rfl, fun i t g e _ => by simp at e⟩
theorem Prs.cons {H : Hp} {t : Addr} {g : Int × Int} {ts : List Addr} {gs : List (Int × Int)} (e : H t = some (.tup [.int g.1, .int g.2])) (h : Prs H ts gs) : Prs H (t :: ts) (g :: gs) := by
  refine ⟨by rw [List.length_cons, List.length_cons, h.len], fun i u x e1 e2 => ?_⟩
  cases i with
  | zero =>
    obtain rfl : t = u := Option.some.inj e1
    obtain rfl : g = x := Option.some.inj e2
    exact e
  | succ i => exact h.at' i u x (by simpa using e1) (by simpa using e2)
theorem Prs.cat {H : Hp} {ts us : List Addr} {gs hs : List (Int × Int)} (h : Prs H ts gs) (k : Prs H us hs) : Prs H (ts ++ us) (gs ++ hs) := by
  refine ⟨by rw [List.length_append, List.length_append, h.len, k.len], fun i t r e1 e2 => ?_⟩
  by_cases hi : i < ts.length
  · rw [List.getElem?_append_left hi] at e1
    rw [List.getElem?_append_left (by rw [← h.len]; exact hi)] at e2
    exact h.at' i t r e1 e2
  · rw [List.getElem?_append_right (by omega)] at e1
    rw [List.getElem?_append_right (by rw [← h.len]; omega), ← h.len] at e2
    exact k.at' _ t r e1 e2
theorem Prs.take {H : Hp} {ts : List Addr} {gs : List (Int × Int)} (h : Prs H ts gs) (n : Nat) : Prs H (ts.take n) (gs.take n) := by
  refine ⟨by rw [List.length_take, List.length_take, h.len], fun i t r e1 e2 => ?_⟩
  rw [List.getElem?_take] at e1 e2
  split at e1
  · rename_i hi
    rw [if_pos hi] at e2
    exact h.at' i t r e1 e2
  · cases e1
theorem Prs.drop {H : Hp} {ts : List Addr} {gs : List (Int × Int)} (h : Prs H ts gs) (n : Nat) : Prs H (ts.drop n) (gs.drop n) := by
  refine ⟨by rw [List.length_drop, List.length_drop, h.len], fun i t r e1 e2 => ?_⟩
  rw [List.getElem?_drop] at e1 e2
  exact h.at' _ t r e1 e2
theorem cutFrom (xs : List V) (j : Nat) : cutV xs (some (j : Int)) none = xs.drop j := by
  unfold cutV
  rw [HT.sIx_none, HT.sIx_nat]
  show (List.drop (min j xs.length) xs).take (xs.length - min j xs.length) = _
  by_cases h : j ≤ xs.length
  · rw [Nat.min_eq_left h, List.take_of_length_le (by rw [List.length_drop]; omega)]
  · rw [Nat.min_eq_right (by omega), List.drop_of_length_le (Nat.le_refl _), List.drop_of_length_le (show xs.length ≤ j by omega), List.take_nil]
theorem iteX {c : Bool} {A B : Prop} (hc : c = false) (h : B) : if c = true then A else B := by
  rw [hc]
  exact iteF h
theorem nd_self (x : V) : (!decide (x = x)) = false := by rw [decide_eq_true rfl]; rfl
theorem log2_lt {x : Int} {k : Nat} (h0 : 0 ≤ x) (h1 : x < 2 ^ k) (hk : 0 < k) : x.natAbs.log2 < k := by
  by_cases h4 : x.natAbs = 0
  · rw [h4]; exact Nat.lt_of_le_of_lt (by decide) hk
  · refine (Nat.log2_lt h4).mpr ?_
    have : ((x.natAbs : Nat) : Int) < ((2 ^ k : Nat) : Int) := by
      rw [show ((x.natAbs : Nat) : Int) = x by omega]
      exact_mod_cast h1
    exact_mod_cast this
theorem part_at {gs : List (Int × Int)} {i : Nat} {g : Int × Int} (e : gs[i]? = some g) : gs = gs.take i ++ [g] ++ gs.drop (i + 1) := by
  have hi := at_lt e
  have h2 := List.getElem_cons_drop (as := gs) (i := i) hi
  rw [List.getElem?_eq_getElem hi] at e
  rw [Option.some.inj e] at h2
  rw [List.append_assoc]
  show gs = gs.take i ++ (g :: gs.drop (i + 1))
  rw [h2, List.take_append_drop]
theorem rg0 {i : Nat} {x : V} (h : x = V.int (0 + (i : Int))) : x = V.int (i : Int) := by
  rw [h, Int.zero_add]
end El
namespace El
open PySem PySem.Spec PyProof.Rows L2
theorem RmsAt.addN {H : Hp} {B : Addr → Prop} {o u : Addr} {ts : List Addr} {rs : List (List Int)} {r : List Int} (h : RmsAt H B o ts rs) (e : H u = some (.lst (r.map V.int))) (bu : B u) (hu : u ∉ ts) (uo : u ≠ o) :
    RmsAt (upd H o (.lst (ts.map V.ref ++ [.ref u]))) B o (ts ++ [u]) (rs ++ [r]) := by
  have no : ∀ t ∈ ts, t ≠ o := fun t m z => h.no (z ▸ m)
  refine ⟨by rw [upd_same, List.map_append]; rfl, h.bo, ?_, ?_, ?_, fun i t r' e1 e2 => ?_, fun t m => ?_⟩
  · rw [List.nodup_append]
    refine ⟨h.nd, by simp, fun a m b mb => ?_⟩
    rw [List.mem_singleton.mp mb]
    exact fun z => hu (z ▸ m)
  · intro m
    rcases List.mem_append.mp m with m | m
    · exact h.no m
    · exact uo (List.mem_singleton.mp m).symm
  · rw [List.length_append, List.length_append, h.len]
    rfl
  · by_cases hi : i < ts.length
    · rw [List.getElem?_append_left hi] at e1
      rw [List.getElem?_append_left (by rw [← h.len]; exact hi)] at e2
      rw [upd_ne (no t (List.mem_of_getElem? e1))]
      exact h.at' i t r' e1 e2
    · have hi2 := at_lt e1
      rw [List.length_append, List.length_singleton] at hi2
      have : i = ts.length := by omega
      subst this
      rw [List.getElem?_append_right (Nat.le_refl _), Nat.sub_self] at e1
      rw [h.len, List.getElem?_append_right (Nat.le_refl _), Nat.sub_self] at e2
      obtain rfl := Option.some.inj e1
      obtain rfl := Option.some.inj e2
      rw [upd_ne uo]
      exact e
  · rcases List.mem_append.mp m with m | m
    · exact h.b t m
    · rw [List.mem_singleton.mp m]
      exact bu
theorem GsAt.sortedN {H H' : Hp} {B : Addr → Prop} {a p : Addr} {ts : List Addr} {gs : List (Int × Int)} {zs : List V} (h : GsAt H B a ts gs) (k : Same H H') (pm : zs.Perm (ts.map V.ref)) (hz : zs.map (prOf H) = byAge gs) (e : H' p = some (.lst zs)) : ∃ us, GsAt H' (fun _ => True) p us (byAge gs) ∧ zs = us.map V.ref ∧ ∀ u ∈ us, u ∈ ts := by
  have : ∃ us : List Addr, zs = us.map V.ref ∧ ∀ u ∈ us, u ∈ ts := by
    have hm : ∀ z ∈ zs, ∃ t, z = V.ref t ∧ t ∈ ts := fun z m => by
      obtain ⟨t, mt, rfl⟩ := List.mem_map.mp (pm.mem_iff.mp m)
      exact ⟨t, rfl, mt⟩
    clear pm hz e
    induction zs with
    | nil => exact ⟨[], rfl, fun u m => by simp at m⟩
    | cons z zs ih =>
      obtain ⟨t, rfl, mt⟩ := hm z List.mem_cons_self
      obtain ⟨us, rfl, hu⟩ := ih fun y m => hm y (List.mem_cons_of_mem _ m)
      exact ⟨t :: us, rfl, fun u m => by
        rcases List.mem_cons.mp m with rfl | m
        · exact mt
        · exact hu u m⟩
  obtain ⟨us, rfl, hu⟩ := this
  refine ⟨us, ⟨e, trivial, ?_, fun i t g e1 e2 => ?_, fun _ _ => trivial⟩, rfl, hu⟩
  · have := congrArg List.length hz
    rw [List.length_map, List.length_map] at this
    exact this
  · have m := h.mem (.ref t) (pm.mem_iff.mp (List.mem_map.mpr ⟨t, List.mem_of_getElem? e1, rfl⟩))
    obtain ⟨t', et, e3⟩ := m
    injection et with et
    subst et
    have : prOf H (.ref t) = g := by
      have h2 := congrArg (fun l => l[i]?) hz
      rw [List.getElem?_map, List.getElem?_map, e1, e2] at h2
      exact Option.some.inj h2
    rw [this] at e3
    exact k _ _ e3
theorem iteTa {c : Bool} {A B : Prop} (hc : c = true) (h : A) : if c = true then A else B := by rw [if_pos hc]; exact h
end El
namespace El
open PySem PySem.Spec PyProof.Rows L2
/-- a method as the top has written it -/
structure Ma (K : PySem.W.Frag) (C : Addr) (m q : Str) (ps : List Str) (st : Stmt) : Prop where
  ex : ∃ (f : Addr) (fd : FuncData), Fun K m q st f fd ∧ Meth K C m f ∧ Binds K fd ps []
/-- a method and what it promises -/
structure Mf (P : Program) (w : World) (K : PySem.W.Frag) (mg : Str → Option Value) (base : Heap) (k : Nat) (C : Addr) (m q : Str) (ps : List Str) (st : Stmt) (sp : Sp) : Prop where
  ex : ∃ (f : Addr) (fd : FuncData), Fun K m q st f fd ∧ Meth K C m f ∧ Binds K fd ps [] ∧ FnOk P w K mg base CX0 k f fd ps sp
theorem Ma.mf {P : Program} {w : World} {K : PySem.W.Frag} {mg : Str → Option Value} {base : Heap} {k : Nat} {C : Addr} {m q : Str} {ps : List Str} {st : Stmt} {sp : Sp} (A : Ma K C m q ps st)
    (h : ∀ f fd, Fun K m q st f fd → FnOk P w K mg base CX0 k f fd ps sp) : Mf P w K mg base k C m q ps st sp := by
  obtain ⟨f, fd, F, M, b⟩ := A.ex
  exact ⟨f, fd, F, M, b, h f fd F⟩
section
variable {X : Cx} {k : Nat} {C : Addr} {m q : Str} {st : Stmt} {ps : List Str} {sp : Sp} {pos apos : Pos} {o e : Expr} {es : List Expr} {ta : TE} {t : TA}
/-- o.m(e, ..) -/
theorem pe_mf {pl : Sem Bool} (D : Mf X.prog X.w X.K X.mg X.base k C m q ps st sp) (c : Cls X.K C) (hr : Room k X.A) (he : PE X o ta) (ha : PA X (e :: es) t)
    (hst : starEach (e :: es) X.env = (false, eval e X.env) :: starEach es X.env := by rfl) (hpl : (backTo pos (starEach es X.env)).any (·.1) = false := by rfl)
    (ht : eval (.Call (.Attribute o m apos) (e :: es) [] pos) X.env = (do
      let ov ← eval o X.env
      standAt apos.atName
      let (f, first) ← holding [ov] (getMethod ov m pl)
      callWith pos f first (backTo pos (starEach (e :: es) X.env)) (backToKw pos (keywordEach [] X.env))) := by rfl) :
    PE X (.Call (.Attribute o m apos) (e :: es) [] pos) (tMeth C m sp [] E0 ta t) := by
  obtain ⟨f, fd, _, M, b, F⟩ := D.ex
  exact pe_meth (pl := pl) he c M F hr b .nil pass0 ha hst hpl ht
/-- o.m() -/
theorem pe_mf0 {pl : Sem Bool} (D : Mf X.prog X.w X.K X.mg X.base k C m q ps st sp) (c : Cls X.K C) (hr : Room k X.A) (he : PE X o ta)
    (ht : eval (.Call (.Attribute o m apos) [] [] pos) X.env = (do
      let ov ← eval o X.env
      standAt apos.atName
      let (f, first) ← holding [ov] (getMethod ov m pl)
      callWith pos f first (backTo pos (starEach [] X.env)) (backToKw pos (keywordEach [] X.env))) := by rfl) :
    PE X (.Call (.Attribute o m apos) [] [] pos) (tMeth C m sp [] E0 ta tNil) := by
  obtain ⟨f, fd, _, M, b, F⟩ := D.ex
  exact pe_meth0 (pl := pl) he c M F hr b .nil pass0 ht
/-- the reading of o.m(k = v, ..): the values in the order of g, behind the object -/
def tMethW (C : Addr) (m : Str) (n : Nat) (sp : Sp) (g : List V → List V) (ta : TE) (tk : TA) : TE := fun σ H Q => ta σ H fun x H1 => ∃ a dx fs, x = .ref a ∧ H1 a = some (.ins C dx fs) ∧ fs.lookup m = none ∧
  tk σ H1 fun zs H2 => zs.length = n ∧ sp (x :: g zs) H2 Q E0
theorem pe_mfK {kws : List Keyword} {tk : TA} {pl : Sem Bool} (D : Mf X.prog X.w X.K X.mg X.base k C m q ps st sp) (c : Cls X.K C) (ks : List Str) (g : {α : Type} → List α → List α) (hr : Room k X.A) (he : PE X o ta) (hkw : PK X kws tk)
    (hb : ∀ (kV doc pm : Value) (an : Option Addr) (cdv ct : Value) (u : Value) (ws : List Value), ws.length = ks.length → bindArgs (PySem.W.fnOf m q (defArgs st) (defBody st) (defScope st) .none kV doc pm an cdv ct) ⟨[u], ks.zip ws⟩ = pure (ps.zip (u :: g ws)))
    (hrel : ∀ {zs : List V} {ws : List Value}, Vals zs ws → Vals (g zs) (g ws))
    (hall : (backToKw pos (keywordEach kws X.env)).all (·.1.isSome) = true := by rfl) (hks : (backToKw pos (keywordEach kws X.env)).filterMap (·.1) = ks := by rfl)
    (hpl : ((backTo pos (starEach [] X.env)).any (·.1) || (backToKw pos (keywordEach kws X.env)).any (·.1.isNone)) = false := by rfl)
    (ht : eval (.Call (.Attribute o m apos) [] kws pos) X.env = (do
      let ov ← eval o X.env
      standAt apos.atName
      let (f, first) ← holding [ov] (getMethod ov m pl)
      callWith pos f first (backTo pos (starEach [] X.env)) (backToKw pos (keywordEach kws X.env))) := by rfl) :
    PE X (.Call (.Attribute o m apos) [] kws pos) (tMethW C m ks.length sp (fun zs => g zs) ta tk) := by
  obtain ⟨f, fd, F, M, b, G⟩ := D.ex
  have KB : KBn X.K fd ps 1 ks (fun us ws => us ++ g ws) (fun vs zs => vs ++ g zs) := by
    obtain ⟨oc, od, kV, doc, pm, an, cdv, ct, osl, rfl, lk, hcd⟩ := F.ex
    refine ⟨fun s us ws hK l1 l2 => ?_, fun {vs us zs ws} r rz => Vals.append r (hrel rz)⟩
    match us, l1 with
    | [u], _ => exact .of_eq (hb kV doc pm an cdv ct u ws l2)
  refine ⟨fun pins s σ H Q I h => ?_⟩
  refine PySem.W.methodCall_KW (pl := pl) (thn (he.run pins s σ H _ I h) fun u s1 ⟨x, H1, I1, rx, a, dx, fs, ex, ea, l, q⟩ => ?_) ht
  subst ex
  obtain rfl : u = Value.ref a := rx
  refine getmeth_ok I1 ea c M l ?_
  refine PySem.W.callWith_KW0 (first := [.ref a]) (h₀ := X.base) I.ok.mod.kin M.kp hall ?_ hpl
  refine thn (hkw.run pos pins s1 σ H1 _ I1 q) fun ws s2 ⟨zs, H2, I2, rz, l2, q2⟩ => ⟨I2.kIn, ?_⟩
  rw [hks]
  exact run_fnN (us := [.ref a]) (vs := [.ref a]) G hr KB pass0 I2 (.cons rfl .nil) rz rfl l2 q2
end
/-! ### what an Inn looks like between two calls -/
theorem npr : ¬ (("_patience_of" : Str) = "_rooms") := by decide +kernel
/-- its fields in the order in which they are set -/
def iflds (d o : Addr) : List (Str × V) := putF "_rooms" (.ref o) (putF "_patience_of" (.ref d) [])
theorem iflds_p (d o : Addr) : (iflds d o).lookup ("_patience_of" : Str) = some (.ref d) := by
  unfold iflds
  rw [lookup_putF, if_neg npr, lookup_putF, if_pos rfl]
theorem iflds_r (d o : Addr) : (iflds d o).lookup ("_rooms" : Str) = some (.ref o) := by
  unfold iflds
  rw [lookup_putF, if_pos rfl]
theorem iflds_no (d o : Addr) {m : Str} (h1 : ¬ m = "_rooms") (h2 : ¬ m = "_patience_of") : (iflds d o).lookup m = none := by
  unfold iflds
  rw [lookup_putF, if_neg h1, lookup_putF, if_neg h2]
  rfl
/-- what of the text the class has -/
structure InnT (K : PySem.W.Frag) (mg : Str → Option Value) (C : Addr) : Prop where
  cl : Cls K C
  nP : NoAttr K C "_patience_of"
  nR : NoAttr K C "_rooms"
  mgC : mg "Inn" = some (.ref C)
/-- an Inn at p: the guests gs in the order in which they came, the rooms rs; all it owns lies in B -/
structure InnAt (C : Addr) (H : Hp) (B : Addr → Prop) (p d o : Addr) (ts : List Addr) (gs : List (Int × Int)) (rs : List (List Int)) : Prop where
  ob : ∃ dx, H p = some (.ins C dx (iflds d o))
  dc : H d = some (.dK (pks gs))
  rm : RmsAt H B o ts rs
  bp : B p
  bd : B d
theorem InnAt.keep {C : Addr} {H H' : Hp} {B : Addr → Prop} {p d o : Addr} {ts : List Addr} {gs : List (Int × Int)} {rs : List (List Int)} (h : InnAt C H B p d o ts gs rs) (k : Kp B H H') : InnAt C H' B p d o ts gs rs := by
  obtain ⟨⟨dx, e⟩, dc, rm, bp, bd⟩ := h
  exact ⟨⟨dx, k _ _ bp e⟩, k _ _ bd dc, rm.keep k, bp, bd⟩
theorem InnAt.same {C : Addr} {H H' : Hp} {B : Addr → Prop} {p d o : Addr} {ts : List Addr} {gs : List (Int × Int)} {rs : List (List Int)} (h : InnAt C H B p d o ts gs rs) (k : Same H H') : InnAt C H' B p d o ts gs rs := h.keep (.of k)
theorem InnAt.pd {C : Addr} {H : Hp} {B : Addr → Prop} {p d o : Addr} {ts : List Addr} {gs : List (Int × Int)} {rs : List (List Int)} (h : InnAt C H B p d o ts gs rs) : p ≠ d := fun z => by
  obtain ⟨dx, e⟩ := h.ob
  rw [z, h.dc] at e
  cases e
theorem InnAt.po {C : Addr} {H : Hp} {B : Addr → Prop} {p d o : Addr} {ts : List Addr} {gs : List (Int × Int)} {rs : List (List Int)} (h : InnAt C H B p d o ts gs rs) : p ≠ o := fun z => by
  obtain ⟨dx, e⟩ := h.ob
  rw [z, h.rm.top] at e
  cases e
theorem InnAt.od {C : Addr} {H : Hp} {B : Addr → Prop} {p d o : Addr} {ts : List Addr} {gs : List (Int × Int)} {rs : List (List Int)} (h : InnAt C H B p d o ts gs rs) : o ≠ d := fun z => by
  have e := h.dc
  rw [← z, h.rm.top] at e
  cases e
theorem InnAt.room {C : Addr} {H : Hp} {B : Addr → Prop} {p d o : Addr} {ts : List Addr} {gs : List (Int × Int)} {rs : List (List Int)} (h : InnAt C H B p d o ts gs rs) {t : Addr} (m : t ∈ ts) : t ≠ p ∧ t ≠ d := by
  obtain ⟨i, e⟩ := List.mem_iff_getElem?.mp m
  have hl := at_lt e
  rw [h.rm.len] at hl
  obtain ⟨r, er⟩ := at_some hl
  have e1 := h.rm.at' i t r e er
  refine ⟨fun z => ?_, fun z => ?_⟩
  · obtain ⟨dx, e2⟩ := h.ob
    rw [← z, e1] at e2
    cases e2
  · have e2 := h.dc
    rw [← z, e1] at e2
    cases e2
/-- its rooms alone have changed -/
theorem InnAt.rooms {C : Addr} {H H' : Hp} {B : Addr → Prop} {p d o : Addr} {ts ts' : List Addr} {gs : List (Int × Int)} {rs rs' : List (List Int)} (h : InnAt C H B p d o ts gs rs) (k : Kp (fun b => b ≠ o ∧ b ∉ ts) H H') (r : RmsAt H' B o ts' rs') : InnAt C H' B p d o ts' gs rs' := by
  obtain ⟨dx, e⟩ := h.ob
  exact ⟨⟨dx, k _ _ ⟨h.po, fun m => (h.room m).1 rfl⟩ e⟩, k _ _ ⟨h.od.symm, fun m => (h.room m).2 rfl⟩ h.dc, r, h.bp, h.bd⟩
/-- guest a has entered room i -/
def enterR (rs : List (List Int)) (i : Nat) (a : Int) : List (List Int) := if i < rs.length then rs.set i (down (rs.getD i [] ++ [a])) else rs ++ [[a]]
theorem enterR_old {rs : List (List Int)} {i : Nat} {r : List Int} (a : Int) (h : rs[i]? = some r) : enterR rs i a = rs.set i (down (r ++ [a])) := by
  unfold enterR
  rw [if_pos (at_lt h), List.getD_eq_getElem?_getD, h]
  rfl
theorem enterR_new (rs : List (List Int)) (a : Int) : enterR rs rs.length a = rs ++ [[a]] := if_neg (Nat.lt_irrefl _)
/-- another list in the place of one -/
theorem RmsAt.put {H : Hp} {B : Addr → Prop} {o q : Addr} {ts : List Addr} {rs : List (List Int)} {i : Nat} {r : List Int} (h : RmsAt H B o ts rs) (hi : i < rs.length) (e : H q = some (.lst (r.map V.int))) (bq : B q) (nq : q ∉ ts) (qo : q ≠ o) :
    RmsAt (upd H o (.lst ((ts.set i q).map V.ref))) B o (ts.set i q) (rs.set i r) := by
  have inn : ∀ t ∈ ts.set i q, t = q ∨ t ∈ ts := fun t m => (List.mem_or_eq_of_mem_set m).symm
  have hn : ∀ t ∈ ts.set i q, t ≠ o := fun t m z => by
    rcases inn t m with y | y
    · exact qo (y ▸ z)
    · exact h.no (z ▸ y)
  refine ⟨upd_same, h.bo, ?_, fun m => hn o m rfl, ?_, fun j t x e1 e2 => ?_, fun t m => ?_⟩
  · rw [List.nodup_iff_pairwise_ne, List.pairwise_iff_getElem]
    intro a b ha hb hab
    rw [List.length_set] at ha hb
    rw [List.getElem_set, List.getElem_set]
    by_cases h1 : i = a
    · by_cases h2 : i = b
      · omega
      · rw [if_pos h1, if_neg h2]
        exact fun z => nq (z ▸ List.getElem_mem hb)
    · by_cases h2 : i = b
      · rw [if_neg h1, if_pos h2]
        exact fun z => nq (z ▸ List.getElem_mem ha)
      · rw [if_neg h1, if_neg h2]
        exact List.pairwise_iff_getElem.mp (List.nodup_iff_pairwise_ne.mp h.nd) a b ha hb hab
  · rw [List.length_set, List.length_set]
    exact h.len
  · rw [upd_ne (hn t (List.mem_of_getElem? e1))]
    by_cases hj : i = j
    · subst hj
      rw [List.getElem?_set_self (by rw [h.len]; exact hi)] at e1
      rw [List.getElem?_set_self hi] at e2
      obtain rfl : q = t := Option.some.inj e1
      obtain rfl : r = x := Option.some.inj e2
      exact e
    · rw [List.getElem?_set_ne hj] at e1 e2
      exact h.at' j t x e1 e2
  · rcases inn t m with rfl | m
    · exact bq
    · exact h.b t m
theorem RmsAt.lives {H : Hp} {B : Addr → Prop} {o : Addr} {ts : List Addr} {rs : List (List Int)} (h : RmsAt H B o ts rs) {t : Addr} (m : t ∈ ts) : ∃ r : List Int, H t = some (.lst (r.map V.int)) := by
  obtain ⟨i, e⟩ := List.mem_iff_getElem?.mp m
  have hl := at_lt e
  rw [h.len] at hl
  obtain ⟨r, er⟩ := at_some hl
  exact ⟨r, h.at' i t r e er⟩
theorem RmsAt.reL {H : Hp} {B B' : Addr → Prop} {o : Addr} {ts : List Addr} {rs : List (List Int)} (h : RmsAt H B o ts rs) (k : ∀ b, (∃ v, H b = some v) → B b → B' b) : RmsAt H B' o ts rs :=
  ⟨h.top, k _ ⟨_, h.top⟩ h.bo, h.nd, h.no, h.len, h.at', fun t m => k _ (let ⟨r, e⟩ := h.lives m; ⟨_, e⟩) (h.b t m)⟩
theorem InnAt.reB {C : Addr} {H : Hp} {B B' : Addr → Prop} {p d o : Addr} {ts : List Addr} {gs : List (Int × Int)} {rs : List (List Int)} (h : InnAt C H B p d o ts gs rs) (k : ∀ b, (∃ v, H b = some v) → B b → B' b) : InnAt C H B' p d o ts gs rs :=
  ⟨h.ob, h.dc, h.rm.reL k, k _ (let ⟨dx, e⟩ := h.ob; ⟨_, e⟩) h.bp, k _ ⟨_, h.dc⟩ h.bd⟩
theorem ifYes {c : Bool} {A B : Prop} (hc : c = true) (h : A) : if c = true then A else B := by
  subst hc
  exact iteT h
theorem ifNo {c : Bool} {A B : Prop} (hc : c = false) (h : B) : if c = true then A else B := by
  subst hc
  exact iteF h
end El
namespace El
/-- rooms in which somebody is on the way: x is to enter room i -/
def Mid (gs : List (Int × Int)) (rs : List (List Int)) (i : Nat) (x : Int × Int) : Prop :=
  ∃ (D : List (List Int)) (L L' : List (Int × Int)), rs = D ++ settleL L ∧ D.length = i ∧ Comes x L L' ∧ L'.Sublist (byAge gs) ∧ settle gs = D ++ settleL L'
theorem Comes.sub {x : Int × Int} {L L' : List (Int × Int)} (h : Comes x L L') : L.Sublist L' := by
  obtain ⟨pre, post, rfl, rfl⟩ := h
  exact (List.Sublist.refl pre).append (List.sublist_cons_self x post)
theorem Comes.mem {x : Int × Int} {L L' : List (Int × Int)} (h : Comes x L L') : x ∈ L' := by
  obtain ⟨pre, post, _, rfl⟩ := h
  simp
theorem Comes.has {x g : Int × Int} {L L' : List (Int × Int)} (h : Comes x L L') (m : g ∈ L) : g ∈ L' := h.sub.subset m
theorem Mid.start {gs : List (Int × Int)} {x : Int × Int} (F : Fit (gs ++ [x])) : Mid (gs ++ [x]) (settle gs) 0 x := by
  have p : (x :: gs).Perm (gs ++ [x]) := by
    have := List.perm_append_comm (l₁ := [x]) (l₂ := gs)
    exact this
  obtain ⟨pre, post, e1, e2⟩ := byAge_split (F.perm p)
  have e3 : byAge (gs ++ [x]) = pre ++ x :: post := by
    rw [← e1]
    exact (byAge_congr F p).symm
  refine ⟨[], byAge gs, byAge (gs ++ [x]), rfl, rfl, ⟨pre, post, e2, e3⟩, List.Sublist.refl _, rfl⟩
theorem Mid.first {gs : List (Int × Int)} {rs : List (List Int)} {i : Nat} {x : Int × Int} (F : Fit gs) (M : Mid gs rs i x) : i < (settle gs).length ∧ i ≤ rs.length ∧ rs.length ≤ 2 * gs.length ∧ (∀ r ∈ rs, r.length ≤ gs.length) ∧ x ∈ gs := by
  obtain ⟨D, L, L', e1, e2, c, s, e3⟩ := M
  have pos : ∀ g ∈ L', 0 ≤ g.2 := fun g m => F.pos g ((byAge_perm gs).mem_iff.mp (s.subset m))
  have ne : L' ≠ [] := fun z => by
    have := c.mem
    rw [z] at this
    cases this
  have l1 := s.length_le
  rw [byAge_length] at l1
  have l2 := c.sub.length_le
  have l3 := settleL_len (byAge gs)
  rw [byAge_length] at l3
  have l3' : (settle gs).length ≤ gs.length := l3
  have l4 := settleL_len L
  have l5 : (settle gs).length = D.length + (settleL L').length := by
    rw [e3, List.length_append]
  have l6 : 0 < (settleL L').length := by
    rw [settle_first ne pos, List.length_cons]
    omega
  refine ⟨by omega, by rw [e1, List.length_append]; omega, by rw [e1, List.length_append]; omega, fun r m => ?_, (byAge_perm gs).mem_iff.mp (s.subset c.mem)⟩
  rw [e1] at m
  rcases List.mem_append.mp m with m | m
  · have m' : r ∈ settleL (byAge gs) := by
      show r ∈ settle gs
      rw [e3]
      exact List.mem_append_left _ m
    have := settleL_room m'
    rw [byAge_length] at this
    exact this
  · have := settleL_room m
    omega
theorem Mid.step {gs : List (Int × Int)} {rs : List (List Int)} {i : Nat} {x : Int × Int} (F : Fit gs) (M : Mid gs rs i x) :
    ∃ E : List Int, (enterR rs i x.1)[i]? = some E ∧ E.length ≤ gs.length ∧ (∀ a ∈ E, a ∈ gs.map (·.1)) ∧ E.Nodup ∧
      ((eldUp gs E = none ∧ enterR rs i x.1 = settle gs) ∨ ∃ y : Int × Int, y.1 ∈ E ∧ eldUp gs E = some y.1 ∧ Mid gs ((enterR rs i x.1).set i (E.erase y.1)) (i + 1) y) := by
  obtain ⟨D, L, L', rfl, rfl, c, s, e3⟩ := M
  have mem : ∀ g ∈ L', g ∈ gs := fun g m => (byAge_perm gs).mem_iff.mp (s.subset m)
  obtain ⟨E, pE, dE, out⟩ := come_step F c s
  have e1 : enterR (D ++ settleL L) D.length x.1 = D ++ E :: settleL (r0 0 L) := by
    rw [settle_parts fun g m => F.pos g (mem g (c.has m))]
    by_cases h : L = []
    · rw [if_pos h]
      subst h
      have eE : E = [x.1] := List.perm_singleton.mp (pE.trans (.refl _))
      rw [List.append_nil, enterR_new, eE]
      rfl
    · rw [if_neg h]
      have er : (D ++ roomOf L :: settleL (r0 0 L))[D.length]? = some (roomOf L) := by
        rw [List.getElem?_append_right (Nat.le_refl _), Nat.sub_self]
        rfl
      have eE : E = down (roomOf L ++ [x.1]) := down_is (pE.trans (List.perm_append_comm (l₁ := [x.1]) (l₂ := roomOf L))) (dE.imp fun h => by omega)
      rw [enterR_old x.1 er, List.set_append_right _ _ (Nat.le_refl _), Nat.sub_self, ← eE]
      rfl
  have inE : ∀ a ∈ E, a ∈ gs.map (·.1) := fun a m => by
    rcases List.mem_cons.mp (pE.mem_iff.mp m) with rfl | m
    · exact List.mem_map_of_mem (mem x c.mem)
    · obtain ⟨g, hg, rfl⟩ := List.mem_map.mp m
      exact List.mem_map_of_mem (mem g (c.has ((g0_sub L 0).subset hg)))
  have ndE : E.Nodup := dE.imp fun h => by omega
  refine ⟨E, ?_, ?_, inE, ndE, ?_⟩
  · rw [e1, List.getElem?_append_right (Nat.le_refl _), Nat.sub_self]
    rfl
  · have := List.Nodup.length_le_of_subset ndE inE
    rw [List.length_map] at this
    exact this
  · rcases out with ⟨h1, h2⟩ | ⟨y, hy, m, h1, h2, h3⟩
    · exact .inl ⟨h1, by rw [e1, e3, h2]⟩
    · refine .inr ⟨y, m, h1, D ++ [E.erase y.1], r0 0 L, r0 0 L', ?_, by rw [List.length_append]; rfl, h3, (r0_sub L' 0).trans s, ?_⟩
      · rw [e1, List.set_append_right _ _ (Nat.le_refl _), Nat.sub_self, List.append_assoc]
        rfl
      · rw [e3, h2, List.append_assoc]
        rfl
/-- who came into which room, and the rooms then -/
def comeF : Nat → List (Int × Int) → List (List Int) → Nat → Int → List (Int × Int) × List (List Int)
  | 0, _, rs, _, _ => ([], rs)
  | n + 1, gs, rs, i, x =>
    match eldUp gs ((enterR rs i x).getD i []) with
    | none => ([(x, (i : Int))], enterR rs i x)
    | some y => ((x, (i : Int)) :: (comeF n gs ((enterR rs i x).set i (((enterR rs i x).getD i []).erase y)) (i + 1) y).1, (comeF n gs ((enterR rs i x).set i (((enterR rs i x).getD i []).erase y)) (i + 1) y).2)
theorem comeF_end {n : Nat} {gs : List (Int × Int)} {rs : List (List Int)} {i : Nat} {x : Int} {E : List Int} (e : (enterR rs i x)[i]? = some E) (h : eldUp gs E = none) : comeF (n + 1) gs rs i x = ([(x, (i : Int))], enterR rs i x) := by
  unfold comeF
  rw [List.getD_eq_getElem?_getD, e]
  show (match eldUp gs E with | none => _ | some y => _) = _
  rw [h]
theorem comeF_on {n : Nat} {gs : List (Int × Int)} {rs : List (List Int)} {i : Nat} {x y : Int} {E : List Int} (e : (enterR rs i x)[i]? = some E) (h : eldUp gs E = some y) :
    comeF (n + 1) gs rs i x = ((x, (i : Int)) :: (comeF n gs ((enterR rs i x).set i (E.erase y)) (i + 1) y).1, (comeF n gs ((enterR rs i x).set i (E.erase y)) (i + 1) y).2) := by
  rw [comeF]
  rw [List.getD_eq_getElem?_getD, e]
  show (match eldUp gs E with | none => _ | some y => _) = _
  rw [h]
  rfl
/-- the pairs told when x comes to gs -/
def comeT (gs : List (Int × Int)) (x : Int × Int) : List (Int × Int) := (comeF (settle (gs ++ [x])).length (gs ++ [x]) (settle gs) 0 x.1).1
end El
namespace El
/-! ### somebody goes home: who comes back, room by room -/
/-- how many of R are elder than z -/
def eldN (R : List Int) (z : Int) : Nat := (R.filter fun o => decide (z < o)).length
/-- z would bear it in R -/
def bearB (gs : List (Int × Int)) (R : List Int) (z : Int) : Bool := decide ((eldN R z : Int) ≤ pof gs z)
theorem eldN_lt {R : List Int} {o z : Int} (h : z < o) : eldN (o :: R) z = eldN R z + 1 := by
  unfold eldN
  rw [List.filter_cons, if_pos (decide_eq_true h)]
  rfl
theorem eldN_ge {R : List Int} {o z : Int} (h : ¬ z < o) : eldN (o :: R) z = eldN R z := by
  unfold eldN
  rw [List.filter_cons, if_neg (by simpa using h)]
theorem eldN_perm {R S : List Int} (p : R.Perm S) (z : Int) : eldN R z = eldN S z := (p.filter _).length_eq
theorem eldN_erase {R : List Int} {y z : Int} (h : ¬ z < y) : eldN (R.erase y) z = eldN R z := by
  by_cases m : y ∈ R
  · rw [eldN_perm (List.perm_cons_erase m) z, eldN_ge h]
  · rw [List.erase_of_not_mem m]
theorem eldN_le (R : List Int) (z : Int) : eldN R z ≤ R.length := List.length_filter_le _ _
/-- from the eldest on, no two of an age -/
def Desc (L : List (Int × Int)) : Prop := L.Pairwise fun g h => h.1 < g.1
theorem Desc.sub {L M : List (Int × Int)} (h : Desc M) (s : L.Sublist M) : Desc L := h.sublist s
theorem Desc.nd {L : List (Int × Int)} (h : Desc L) : (L.map (·.1)).Nodup := by
  rw [List.Nodup, List.pairwise_map]
  exact h.imp fun h => by omega
theorem Desc.down {L : List (Int × Int)} (h : Desc L) : (L.map (·.1)).Pairwise (· ≥ ·) := by
  rw [List.pairwise_map]
  exact h.imp fun h => by omega
theorem byAge_desc {gs : List (Int × Int)} (F : Fit gs) : Desc (byAge gs) := by
  have h1 := byAge_sorted gs
  have h2 : (byAge gs).Pairwise fun g h => g.1 ≠ h.1 := by
    have := ((byAge_perm gs).map (·.1)).nodup_iff.mpr F.nd
    rw [List.Nodup, List.pairwise_map] at this
    exact this
  exact (h1.and h2).imp fun h => by omega
/-- who went on has more elders there than they bear -/
theorem r0_bad : ∀ (L : List (Int × Int)) (n : Nat) (g : Int × Int), Desc L → g ∈ r0 n L → g.2 < ((n + eldN ((g0 n L).map (·.1)) g.1 : Nat) : Int)
  | [], _, _, _, m => by cases m
  | h :: L, n, g, d, m => by
    obtain ⟨d1, d2⟩ := List.pairwise_cons.mp d
    by_cases hp : (n : Int) ≤ h.2
    · rw [r0_yes hp] at m
      have := r0_bad L (n + 1) g d2 m
      rw [g0_yes hp, List.map_cons, eldN_lt (d1 g ((r0_sub L (n + 1)).subset m))]
      omega
    · rw [r0_no hp] at m
      rw [g0_no hp]
      rcases List.mem_cons.mp m with rfl | m
      · omega
      · exact r0_bad L n g d2 m
/-- who stays has not -/
theorem g0_good : ∀ (L : List (Int × Int)) (n : Nat) (g : Int × Int), Desc L → g ∈ g0 n L → ((n + eldN ((g0 n L).map (·.1)) g.1 : Nat) : Int) ≤ g.2
  | [], _, _, _, m => by cases m
  | h :: L, n, g, d, m => by
    obtain ⟨d1, d2⟩ := List.pairwise_cons.mp d
    by_cases hp : (n : Int) ≤ h.2
    · rw [g0_yes hp] at m ⊢
      rw [List.map_cons]
      rcases List.mem_cons.mp m with rfl | m
      · have e : eldN (g.1 :: (g0 (n + 1) L).map (·.1)) g.1 = 0 := by
          rw [eldN_ge (Int.lt_irrefl _)]
          unfold eldN
          rw [List.filter_eq_nil_iff.mpr fun o ho => ?_]
          · rfl
          · obtain ⟨k, hk, rfl⟩ := List.mem_map.mp ho
            have := d1 k ((g0_sub L (n + 1)).subset hk)
            simp
            omega
        rw [e]
        exact hp
      · have := g0_good L (n + 1) g d2 m
        rw [eldN_lt (d1 g ((g0_sub L (n + 1)).subset m))]
        omega
    · rw [g0_no hp] at m ⊢
      exact g0_good L n g d2 m
theorem g0_r0_perm : ∀ (L : List (Int × Int)) (n : Nat), (g0 n L ++ r0 n L).Perm L
  | [], _ => .nil
  | g :: L, n => by
    by_cases h : (n : Int) ≤ g.2
    · rw [g0_yes h, r0_yes h]
      exact (g0_r0_perm L (n + 1)).cons g
    · rw [g0_no h, r0_no h]
      exact List.perm_middle.trans ((g0_r0_perm L n).cons g)
theorem settleL_flat (L : List (Int × Int)) : (settleL L).flatten.Perm (L.map (·.1)) := by
  have := foldl_place_perm L []
  rw [List.flatten_nil, List.append_nil] at this
  exact this
/-- the rooms from the one on that somebody has left: who should be there are those of L -/
def After (L : List (Int × Int)) (X : List (List Int)) : Prop :=
  X = roomOf L :: settleL (r0 0 L) ∨ ∃ (y : Int × Int) (M : List (Int × Int)), X = (roomOf L).erase y.1 :: settleL M ∧ y ∈ g0 0 L ∧ Comes y (r0 0 L) M ∧ Desc M
theorem desc_eq {l m : List Int} (p : l.Perm m) (h1 : l.Pairwise (· ≥ ·)) (h2 : m.Pairwise (· ≥ ·)) : l = m := desc_uniq p h1 h2
theorem Comes.perm {x : Int × Int} {L L' : List (Int × Int)} (h : Comes x L L') : L'.Perm (x :: L) := by
  obtain ⟨pre, post, rfl, rfl⟩ := h
  exact List.perm_middle
theorem roomOf_desc {L : List (Int × Int)} (d : Desc L) : (roomOf L).Pairwise (· ≥ ·) := (d.sub (g0_sub L 0)).down
theorem roomOf_nd {L : List (Int × Int)} (d : Desc L) : (roomOf L).Nodup := (d.sub (g0_sub L 0)).nd
/-- x leaves the room it lives in -/
theorem leaves : ∀ (n : Nat) {x : Int × Int} {L L' : List (Int × Int)}, L'.length ≤ n → Comes x L L' → Desc L' → (∀ g ∈ L', 0 ≤ g.2) →
    ∃ (D : List (List Int)) (R : List Int) (T : List (List Int)) (J : List (Int × Int)), settleL L' = D ++ R :: T ∧ x.1 ∈ R ∧ settleL L = D ++ settleL J ∧ J.Sublist L ∧ After J (R.erase x.1 :: T)
  | 0, x, L, L', hl, h, _, _ => by
    obtain ⟨pre, post, _, rfl⟩ := h
    simp at hl
  | n + 1, x, L, L', hl, h, d, pos => by
    have ne : L' ≠ [] := fun z => by
      have := h.mem
      rw [z] at this
      cases this
    have dL : Desc L := d.sub h.sub
    have first := settle_first ne pos
    obtain ⟨E, pE, dE, out⟩ := enters h d
    have ndE : (E.map (·.1)).Nodup := Desc.nd dE
    have xE : x ∈ E := pE.mem_iff.mpr List.mem_cons_self
    have pE1 : (E.map (·.1)).Perm (x.1 :: roomOf L) := pE.map (·.1)
    have eEx : (E.map (·.1)).erase x.1 = roomOf L := by
      refine desc_eq ?_ ((Desc.down dE).sublist (List.erase_sublist ..)) (roomOf_desc dL)
      have := pE1.erase x.1
      rw [List.erase_cons_head] at this
      exact this
    rcases out with ⟨fine, e1, e2⟩ | ⟨i, y, ey, fine, bad, e1, e2⟩
    · refine ⟨[], E.map (·.1), settleL (r0 0 L), L, ?_, List.mem_map_of_mem xE, rfl, List.Sublist.refl _, .inl ?_⟩
      · rw [first, e1, e2]
        rfl
      · rw [eEx]
    · have yE := List.mem_of_getElem? ey
      have eEy : (g0 0 L').map (·.1) = (E.map (·.1)).erase y.1 := by
        rw [e1, erase_at ndE (by rw [List.getElem?_map, ey]; rfl)]
        exact (map_erase0' (·.1) E i).symm
      by_cases hyx : y = x
      · subst hyx
        have neL : L ≠ [] := fun z => by
          have l1 := pE.length_eq
          rw [z] at l1
          have l2 := at_lt ey
          have l3 : E.length = 1 := l1
          have := pos y h.mem
          omega
        have firstL := settle_first neL fun g m => pos g (h.sub.subset m)
        have hlt : (r0 0 L').length ≤ n := by
          have := (g0_r0_perm L' 0).length_eq
          rw [List.length_append] at this
          have g1 : 0 < (g0 0 L').length := by
            cases L' with
            | nil => exact absurd rfl ne
            | cons a b =>
              rw [g0_yes (show ((0 : Nat) : Int) ≤ a.2 from pos a List.mem_cons_self)]
              exact Nat.succ_pos _
          omega
        obtain ⟨D, R, T, J, s1, s2, s3, s4, s5⟩ := leaves n hlt e2 (d.sub (r0_sub L' 0)) fun g m => pos g ((r0_sub L' 0).subset m)
        refine ⟨roomOf L :: D, R, T, J, ?_, s2, ?_, s4.trans (r0_sub L 0), s5⟩
        · rw [first, eEy, eEx, s1]
          rfl
        · rw [firstL, s3]
          rfl
      · have yL : y ∈ g0 0 L := (List.mem_cons.mp (pE.mem_iff.mp yE)).resolve_left hyx
        have nxy : x.1 ≠ y.1 := fun z => hyx (by
          have h1 := pE.map (·.1)
          have h2 : (x.1 :: roomOf L).Nodup := h1.nodup_iff.mp ndE
          exact absurd (List.mem_map_of_mem (f := (·.1)) yL) (by rw [← z]; exact (List.nodup_cons.mp h2).1))
        refine ⟨[], (E.map (·.1)).erase y.1, settleL (r0 0 L'), L, ?_, ?_, rfl, List.Sublist.refl _, .inr ⟨y, r0 0 L', ?_, yL, e2, d.sub (r0_sub L' 0)⟩⟩
        · rw [first, eEy]
          rfl
        · exact (List.mem_erase_of_ne nxy).mpr (List.mem_map_of_mem xE)
        · rw [List.erase_comm, eEx]
/-- room n is one that somebody has left; those of gs are there -/
def Hole (gs : List (Int × Int)) (rs : List (List Int)) (n : Nat) : Prop :=
  ∃ (D : List (List Int)) (L : List (Int × Int)) (X : List (List Int)), rs = D ++ X ∧ n = D.length ∧ settle gs = D ++ settleL L ∧ L.Sublist (byAge gs) ∧ After L X
theorem settle_nd {gs : List (Int × Int)} (F : Fit gs) : (settle gs).flatten.Nodup := (settle_flat gs).nodup_iff.mpr F.nd
/-- the only room in which y is -/
theorem only_room {rs : List (List Int)} {D T : List (List Int)} {S : List Int} {y : Int} (e : rs = D ++ S :: T) (nd : rs.flatten.Nodup) (m : y ∈ S) : ∀ (j : Nat) (r : List Int), rs[j]? = some r → y ∈ r → j = D.length := fun j r ej mr => by
  subst e
  rw [List.flatten_append, List.flatten_cons] at nd
  obtain ⟨n1, n2, n3⟩ := List.nodup_append.mp nd
  obtain ⟨n4, n5, n6⟩ := List.nodup_append.mp n2
  rcases Nat.lt_trichotomy j D.length with h | h | h
  · rw [List.getElem?_append_left h] at ej
    exact absurd rfl (n3 y (List.mem_flatten.mpr ⟨r, List.mem_of_getElem? ej, mr⟩) y (List.mem_append_left _ m))
  · exact h
  · rw [List.getElem?_append_right (Nat.le_of_lt h), show j - D.length = (j - D.length - 1) + 1 by omega, List.getElem?_cons_succ] at ej
    exact absurd rfl (n6 y m y (List.mem_flatten.mpr ⟨r, List.mem_of_getElem? ej, mr⟩))
theorem Fit.without {gs : List (Int × Int)} (F : Fit gs) (a : Int) : Fit (gs.filter fun g => decide (g.1 ≠ a)) := F.filter _
theorem without_perm {gs : List (Int × Int)} (F : Fit gs) {x : Int × Int} (m : x ∈ gs) : (x :: gs.filter fun g => decide (g.1 ≠ x.1)).Perm gs := by
  obtain ⟨A, B, rfl⟩ := List.append_of_mem m
  have nd := F.nd
  rw [List.map_append, List.map_cons] at nd
  obtain ⟨n1, n2, n3⟩ := List.nodup_append.mp nd
  obtain ⟨n4, n5⟩ := List.nodup_cons.mp n2
  have eA : A.filter (fun g => decide (g.1 ≠ x.1)) = A := List.filter_eq_self.mpr fun g hg => decide_eq_true fun z => n3 g.1 (List.mem_map_of_mem hg) x.1 List.mem_cons_self z
  have eB : B.filter (fun g => decide (g.1 ≠ x.1)) = B := List.filter_eq_self.mpr fun g hg => decide_eq_true fun z => n4 (z ▸ List.mem_map_of_mem hg)
  rw [List.filter_append, List.filter_cons, if_neg (by simp), eA, eB]
  exact List.perm_middle.symm
/-- x goes out of the room it lives in -/
theorem Hole.start {gs : List (Int × Int)} (F : Fit gs) {x : Int × Int} (m : x ∈ gs) : ∃ (n : Nat) (R : List Int), (settle gs)[n]? = some R ∧ x.1 ∈ R ∧ R.Nodup ∧ (∀ (j : Nat) (r : List Int), (settle gs)[j]? = some r → x.1 ∈ r → j = n) ∧
    Hole (gs.filter fun g => decide (g.1 ≠ x.1)) ((settle gs).set n (R.erase x.1)) n := by
  have F2 : Fit (x :: gs.filter fun g => decide (g.1 ≠ x.1)) := F.perm (without_perm F m)
  obtain ⟨pre, post, e1, e2⟩ := byAge_split F2
  have e3 : byAge gs = pre ++ x :: post := by
    rw [← e1]
    exact (byAge_congr F (without_perm F m)).symm
  have hc : Comes x (byAge (gs.filter fun g => decide (g.1 ≠ x.1))) (byAge gs) := ⟨pre, post, e2, e3⟩
  obtain ⟨D, R, T, J, s1, s2, s3, s4, s5⟩ := leaves _ (Nat.le_refl _) hc (byAge_desc F) F.byAge.pos
  have s1' : settle gs = D ++ R :: T := s1
  have nd := settle_nd F
  refine ⟨D.length, R, ?_, s2, ?_, only_room s1' nd s2, D, J, R.erase x.1 :: T, ?_, rfl, s3, s4, s5⟩
  · rw [s1', List.getElem?_append_right (Nat.le_refl _), Nat.sub_self]
    rfl
  · rw [s1', List.flatten_append, List.flatten_cons] at nd
    exact (List.nodup_append.mp (List.nodup_append.mp nd).2.1).1
  · rw [s1', List.set_append_right _ _ (Nat.le_refl _), Nat.sub_self]
    rfl
/-- either nobody behind bears it there, or the eldest who does comes back -/
theorem Hole.step {gs : List (Int × Int)} (F : Fit gs) {rs : List (List Int)} {n : Nat} (h : Hole gs rs n) : rs.flatten.Nodup ∧ (∀ a ∈ rs.flatten, a ∈ gs.map (·.1)) ∧ ∃ R : List Int, rs[n]? = some R ∧
    (((∀ z ∈ (rs.drop (n + 1)).flatten, bearB gs R z = false) ∧ (R ≠ [] → rs = settle gs) ∧ (R = [] → rs = settle gs ++ [[]])) ∨
      ∃ (y : Int) (m : Nat) (S : List Int), y ∈ (rs.drop (n + 1)).flatten ∧ bearB gs R y = true ∧ (∀ z ∈ (rs.drop (n + 1)).flatten, bearB gs R z = true → z ≤ y) ∧ n < m ∧ rs[m]? = some S ∧ y ∈ S ∧ (∀ (j : Nat) (r : List Int), rs[j]? = some r → y ∈ r → j = m) ∧
        Hole gs ((rs.set m (S.erase y)).set n (down (R ++ [y]))) m) := by
  obtain ⟨D, L, X, rfl, rfl, e, sL, hA⟩ := h
  have dB := byAge_desc F
  have dL : Desc L := dB.sub sL
  have mem : ∀ g ∈ L, g ∈ gs := fun g m => (byAge_perm gs).mem_iff.mp (sL.subset m)
  have pos : ∀ g ∈ L, 0 ≤ g.2 := fun g m => F.pos g (mem g m)
  have ndS := settle_nd F
  have inS : ∀ a, a ∈ (settle gs).flatten → a ∈ gs.map (·.1) := fun a m => (settle_flat gs).mem_iff.mp m
  have bad : ∀ z ∈ r0 0 L, ∀ R : List Int, eldN R z.1 = eldN (roomOf L) z.1 → bearB gs R z.1 = false := fun z hz R hR => by
    unfold bearB
    rw [pof_is F.nd (mem z ((r0_sub L 0).subset hz)), hR]
    have := r0_bad L 0 z dL hz
    rw [Nat.zero_add] at this
    exact decide_eq_false (by
      have h2 : z.2 < (eldN (roomOf L) z.1 : Int) := this
      omega)
  have ofRest : ∀ (M : List (Int × Int)) (z : Int), z ∈ (settleL M).flatten → ∃ g ∈ M, g.1 = z := fun M z hz => by
    obtain ⟨g, hg, eg⟩ := List.mem_map.mp ((settleL_flat M).mem_iff.mp hz)
    exact ⟨g, hg, eg⟩
  have dropD : ∀ (a : List Int) (b : List (List Int)), (D ++ a :: b).drop (D.length + 1) = b := fun a b => by
    rw [show D ++ a :: b = (D ++ [a]) ++ b by simp, List.drop_left' (by simp)]
  rcases hA with rfl | ⟨y, M, rfl, yL, hc, dM⟩
  · have eS : D ++ roomOf L :: settleL (r0 0 L) = if L = [] then settle gs ++ [[]] else settle gs := by
      by_cases hL : L = []
      · rw [if_pos hL, e, hL, List.append_assoc]
        rfl
      · rw [if_neg hL, e, settle_first hL pos]
        rfl
    have hne : roomOf L = [] ↔ L = [] := by
      refine ⟨fun z => ?_, fun z => by rw [z]; rfl⟩
      cases L with
      | nil => rfl
      | cons a b =>
        unfold roomOf at z
        rw [g0_yes (show ((0 : Nat) : Int) ≤ a.2 from pos a List.mem_cons_self)] at z
        cases z
    refine ⟨?_, fun a m => ?_, roomOf L, ?_, .inl ⟨fun z hz => ?_, fun z => ?_, fun z => ?_⟩⟩
    · rw [eS]
      split
      · rw [List.flatten_append]
        simpa using ndS
      · exact ndS
    · rw [eS] at m
      split at m
      · rw [List.flatten_append] at m
        exact inS a (by simpa using m)
      · exact inS a m
    · rw [List.getElem?_append_right (Nat.le_refl _), Nat.sub_self]
      rfl
    · rw [dropD] at hz
      obtain ⟨g, hg, rfl⟩ := ofRest _ z hz
      exact bad g hg _ rfl
    · rw [eS, if_neg fun y => z (hne.mpr y)]
    · rw [eS, if_pos (hne.mp z)]
  · have hL : L ≠ [] := fun z => by
      rw [z] at yL
      cases yL
    have eS : settle gs = D ++ roomOf L :: settleL (r0 0 L) := by
      rw [e, settle_first hL pos]
      rfl
    have yR : y.1 ∈ roomOf L := List.mem_map_of_mem yL
    have yin := mem y ((g0_sub L 0).subset yL)
    have subM : ∀ g ∈ M, g ∈ L := fun g m => by
      rcases List.mem_cons.mp (hc.perm.mem_iff.mp m) with rfl | m
      · exact (g0_sub L 0).subset yL
      · exact (r0_sub L 0).subset m
    have pAll : (D ++ (roomOf L).erase y.1 :: settleL M).flatten.Perm (settle gs).flatten := by
      rw [eS, List.flatten_append, List.flatten_append, List.flatten_cons, List.flatten_cons]
      refine List.Perm.append_left _ ?_
      have p1 : (settleL M).flatten.Perm (y.1 :: (settleL (r0 0 L)).flatten) := (settleL_flat M).trans ((show (M.map (·.1)).Perm (y.1 :: (r0 0 L).map (·.1)) from hc.perm.map (·.1)).trans ((settleL_flat (r0 0 L)).symm.cons y.1))
      refine (List.Perm.append_left _ p1).trans ?_
      refine List.perm_middle.trans ?_
      exact (List.perm_cons_erase yR).symm.append_right _
    have ndX := pAll.nodup_iff.mpr ndS
    have neR : (roomOf L).erase y.1 ++ [y.1] ≠ [] := by simp
    have eR : down ((roomOf L).erase y.1 ++ [y.1]) = roomOf L := (down_is ((List.perm_cons_erase yR).trans (List.perm_append_comm (l₁ := [y.1]) (l₂ := (roomOf L).erase y.1))) (roomOf_desc dL)).symm
    obtain ⟨D1, S, T, J, s1, s2, s3, s4, s5⟩ := leaves _ (Nat.le_refl _) hc dM fun g m => pos g (subM g m)
    have eX : D ++ (roomOf L).erase y.1 :: settleL M = (D ++ (roomOf L).erase y.1 :: D1) ++ S :: T := by
      rw [s1]
      simp
    refine ⟨ndX, fun a m => inS a (pAll.mem_iff.mp m), (roomOf L).erase y.1, ?_, .inr ⟨y.1, D.length + 1 + D1.length, S, ?_, ?_, fun z hz hb => ?_, by omega, ?_, s2, ?_, ?_⟩⟩
    · rw [List.getElem?_append_right (Nat.le_refl _), Nat.sub_self]
      rfl
    · rw [dropD, s1]
      exact List.mem_flatten.mpr ⟨S, by simp, s2⟩
    · unfold bearB
      rw [pof_is F.nd yin, eldN_erase (Int.lt_irrefl _)]
      have := g0_good L 0 y dL yL
      rw [Nat.zero_add] at this
      exact decide_eq_true this
    · rw [dropD] at hz
      obtain ⟨g, hg, rfl⟩ := ofRest _ z hz
      rcases List.mem_cons.mp (hc.perm.mem_iff.mp hg) with rfl | hg
      · exact Int.le_refl _
      · rcases Int.lt_or_le y.1 g.1 with hlt | hle
        · rw [bad g hg _ (eldN_erase (by omega))] at hb
          cases hb
        · exact hle
    · rw [eX, List.getElem?_append_right (by simp; omega)]
      rw [show D.length + 1 + D1.length - (D ++ (roomOf L).erase y.1 :: D1).length = 0 by simp; omega]
      rfl
    · have := only_room eX ndX s2
      rw [show (D ++ (roomOf L).erase y.1 :: D1).length = D.length + 1 + D1.length by simp; omega] at this
      exact this
    · refine ⟨D ++ roomOf L :: D1, J, S.erase y.1 :: T, ?_, by simp; omega, ?_, s4.trans ((r0_sub L 0).trans sL), s5⟩
      · rw [eR, eX, List.set_append_right _ _ (by simp; omega), show D.length + 1 + D1.length - (D ++ (roomOf L).erase y.1 :: D1).length = 0 by simp; omega]
        rw [List.set_cons_zero, List.append_assoc, List.set_append_right _ _ (Nat.le_refl _), Nat.sub_self]
        simp
      · rw [eS, s3]
        simp
/-- the eldest behind room n who would bear it there -/
def backE (gs : List (Int × Int)) (rs : List (List Int)) (n : Nat) : Option Int := ((rs.drop (n + 1)).flatten.filter (bearB gs (rs.getD n []))).max?
/-- the first room in which a is -/
def whereI (rs : List (List Int)) (a : Int) : Nat := rs.findIdx fun r => decide (a ∈ r)
/-- y goes from room m into room n -/
def moveR (rs : List (List Int)) (m n : Nat) (y : Int) : List (List Int) := (rs.set m ((rs.getD m []).erase y)).set n (down (rs.getD n [] ++ [y]))
/-- who comes back into which room -/
def goF : Nat → List (Int × Int) → List (List Int) → Nat → List (Int × Int)
  | 0, _, _, _ => []
  | k + 1, gs, rs, n => match backE gs rs n with
    | none => []
    | some y => (y, (n : Int)) :: goF k gs (moveR rs (whereI rs y) n y) (whereI rs y)
theorem backE_none {gs : List (Int × Int)} {rs : List (List Int)} {n : Nat} {R : List Int} (e : rs[n]? = some R) (h : ∀ z ∈ (rs.drop (n + 1)).flatten, bearB gs R z = false) : backE gs rs n = none := by
  unfold backE
  rw [List.getD_eq_getElem?_getD, e, show (some R).getD [] = R from rfl, List.filter_eq_nil_iff.mpr fun z hz => by rw [h z hz]; exact Bool.false_ne_true]
  rfl
theorem backE_some {gs : List (Int × Int)} {rs : List (List Int)} {n : Nat} {R : List Int} {y : Int} (e : rs[n]? = some R) (m : y ∈ (rs.drop (n + 1)).flatten) (b : bearB gs R y = true) (h : ∀ z ∈ (rs.drop (n + 1)).flatten, bearB gs R z = true → z ≤ y) : backE gs rs n = some y := by
  unfold backE
  rw [List.getD_eq_getElem?_getD, e, show (some R).getD [] = R from rfl]
  refine List.max?_eq_some_iff.mpr ⟨List.mem_filter.mpr ⟨m, b⟩, fun z hz => ?_⟩
  obtain ⟨h1, h2⟩ := List.mem_filter.mp hz
  exact h z h1 h2
theorem whereI_is {rs : List (List Int)} {y : Int} {m : Nat} {S : List Int} (e : rs[m]? = some S) (hy : y ∈ S) (o : ∀ (j : Nat) (r : List Int), rs[j]? = some r → y ∈ r → j = m) : whereI rs y = m := by
  unfold whereI
  have hl := at_lt e
  have eS : rs[m] = S := by
    rw [List.getElem?_eq_getElem hl] at e
    exact Option.some.inj e
  refine (List.findIdx_eq hl).mpr ⟨by rw [eS]; exact decide_eq_true hy, fun j hj => decide_eq_false fun z => ?_⟩
  have := o j (rs[j]'(Nat.lt_trans hj hl)) (List.getElem?_eq_getElem _) z
  omega
/-- what go tells of gs when the guest of age a goes -/
def goT (gs : List (Int × Int)) (a : Int) : List (Int × Int) := goF (settle gs).length (gs.filter fun g => decide (g.1 ≠ a)) ((settle gs).set (whereI (settle gs) a) (((settle gs).getD (whereI (settle gs) a) []).erase a)) (whereI (settle gs) a)
end El
namespace El
open PySem PySem.Spec PyProof.Rows L2
theorem mtIndexK {X : Cx} (K : PySem.W.Frag) (e : X.K = K := by rfl) : MtR X "list.index" (rIndex K) := by
  subst e
  exact mt_index
end El
namespace El
open PySem PySem.Spec PyProof.Rows L2
/-! ### what a method with two lines around its name is asked by -/
section
variable {X : Cx} {k : Nat} {C : Addr} {m q : Str} {st : Stmt} {ps : List Str} {sp : Sp}
/-- a method of ours, run below a builtin -/
theorem run_in {pins : List (Addr × Obj)} {σ : L2.St} {H : Hp} {s : Shared} {A : Around} {Q : VK} {us : List Value} {vs : List V} {f : Addr} {fd : FuncData} (F : FnOk X.prog X.w X.K X.mg X.base CX0 k f fd ps sp) (hr : Room k A) (hfr : A.frames = X.A.frames) (hb : Binds X.K fd ps [])
    (I : Inv X pins σ H s) (r : Vals vs us) (h : sp vs H Q E0) : wpAny (model X.prog X.w) A (call (.ref f) us) (EP X pins σ Q) X.xe s := by
  have e0 : Env0 X.prog X.w X.K X.mg X.base A X.stack s H := by
    have e := I.env0
    exact ⟨by rw [hfr]; exact e.frames, e.mod, e.bs, e.bsz, e.funs, e.frf, e.hok, e.bare⟩
  have hl : us.length = ps.length := by
    rw [← r.length]
    exact F.len _ _ _ _ h
  refine wpAny_call (codeAny_mono (F.run A X.stack s H ⟨us, []⟩ us vs Q E0 hr e0 (by
    have := hb s us I.kIn (by simpa using hl)
    simpa using this) r h) fun r s' hq => ?_)
  cases r with
  | error e => exact pass0 pins σ H s e s' I hq
  | ok fl =>
    cases fl with
    | ret u => exact I.after hq
    | next => exact False.elim hq
    | brk => exact False.elim hq
    | cont => exact False.elim hq
/-- len(o), o with an own __len__ -/
def rLenO (C : Addr) (sp : Sp) : List V → Hp → VK → Prop := fun xs H Q => ∃ (p dx : Addr) (fs : List (Str × V)), xs = [.ref p] ∧ H p = some (.ins C dx fs) ∧ sp [.ref p] H (fun v H' => ∃ n : Int, v = .int n ∧ 0 ≤ n ∧ n < 2 ^ 63 ∧ Q (.int n) H') E0
theorem call_lenO (D : Mf X.prog X.w X.K X.mg X.base k C "__len__" q ps st sp) (hr : Room (k + 1) X.A) : CallR X (.builtin "len") (rLenO C sp) := by
  obtain ⟨f, fd, _, M, b, F⟩ := D.ex
  intro pins s σ H xs us Q I r h
  obtain ⟨p, dx, fs, rfl, ep, h⟩ := h
  obtain rfl := Vals.ref1 r
  obtain ⟨mA, J, _⟩ := ins_get I.hok ep
  obtain ⟨od, J, _⟩ := J.look
  obtain ⟨mm, hF⟩ := I.fr
  refine PySem.W.len_K hF I.ok.mod.kin J M.at_ M.fn ?_
  have r1 : Vals [V.ref p] [Value.ref p] := .cons rfl .nil
  refine wpAny_mono (run_in F hr.in1 rfl b I r1 h) (fun u s' hq => ?_) fun _ _ x => x
  obtain ⟨v, H', I', rv, n, rfl, n0, n1, q⟩ := hq
  obtain ⟨t, rfl⟩ := rv
  exact ⟨⟨n0, n1⟩, .int n, H', I'.tok _, ⟨_, rfl⟩, q⟩
/-- a op b, both of a class of the text's own that says itself how -/
def rCmpO (C : Addr) (sp : Sp) : R2 := fun x y H Q => ∃ (a b dx dy : Addr) (fs gs : List (Str × V)), x = .ref a ∧ y = .ref b ∧ H a = some (.ins C dx fs) ∧ H b = some (.ins C dy gs) ∧ sp [.ref a, .ref b] H (fun v H' => ∃ c : Bool, v = .bl c ∧ Q (.bl c) H') E0
theorem cmpO {op : CmpOp} {pins : List (Addr × Obj)} {σ : L2.St} {H : Hp} {s : Shared} {Q : VK} {a b dx dy : Addr} {fs gs : List (Str × V)} (D : Mf X.prog X.w X.K X.mg X.base k C (cmpInfo op).2.1 q ps st sp) (hr : Room k X.A) (I : Inv X pins σ H s) (ha : H a = some (.ins C dx fs)) (hb : H b = some (.ins C dy gs))
    (h : sp [.ref a, .ref b] H (fun v H' => ∃ c : Bool, v = .bl c ∧ Q (.bl c) H') E0) : wpAny (model X.prog X.w) X.A (richCompare op (.ref a) (.ref b)) (EP X pins σ Q) X.xe s := by
  obtain ⟨f, fd, _, M, bi, F⟩ := D.ex
  obtain ⟨mA, J, _⟩ := ins_get I.hok ha
  obtain ⟨mB, J', _⟩ := ins_get I.hok hb
  obtain ⟨od, J, _⟩ := J.look
  obtain ⟨od', J', _⟩ := J'.look
  obtain ⟨mm, hF⟩ := I.fr
  refine PySem.W.cmp_K (op := op) (tb := .ref C) hr.units0 hF I.ok.mod.kin J J'.type (by simp [PySem.W.notFirst]) M.at_ M.fn ?_
  have r2 : Vals [V.ref a, V.ref b] [Value.ref a, Value.ref b] := .cons rfl (.cons rfl .nil)
  refine wpAny_mono (run_in F hr rfl bi I r2 h) (fun u s' hq => ?_) fun _ _ x => x
  obtain ⟨v, H', I', rv, c, rfl, q⟩ := hq
  cases rv
  exact ⟨.bl c, H', I', rfl, q⟩
theorem op_eqO (D : Mf X.prog X.w X.K X.mg X.base k C "__eq__" q ps st sp) (hr : Room k X.A) : OpR X (compareOp .Eq) (rCmpO C sp) := by
  intro pins s σ H x y v u Q I rx ry h
  obtain ⟨a, b, dx, dy, fs, gs, rfl, rfl, ha, hb, h⟩ := h
  cases rx
  cases ry
  exact cmpO (op := .Eq) D hr I ha hb h
theorem op_neO (D : Mf X.prog X.w X.K X.mg X.base k C "__ne__" q ps st sp) (hr : Room k X.A) : OpR X (compareOp .NotEq) (rCmpO C sp) := by
  intro pins s σ H x y v u Q I rx ry h
  obtain ⟨a, b, dx, dy, fs, gs, rfl, rfl, ha, hb, h⟩ := h
  cases rx
  cases ry
  exact cmpO (op := .NotEq) D hr I ha hb h
/-- what isinstance asks of an instance of the class -/
structure InsT (K : PySem.W.Frag) (C : Addr) : Prop where
  ha : PySem.W.findIn K (.ref C) "__class__" = some (some (.builtin "object.__class__"))
  hn : PySem.W.specialIn K (.builtin "object.__class__") "__get__" = some (some (.builtin "getset_descriptor.__get__"))
  ht : PySem.W.takesIn K (.builtin "object.__class__") = some true
  hm : PySem.W.mroIn K C (.type "object") = some true
theorem relRefO (a : Addr) : RelV (.ref a) (.ref a) := rfl
theorem kit_same {K : PySem.W.Frag} (C : Addr) : PySem.W.kitOne K (.ref C) (.ref C) = some true := if_pos (beq_self_eq_true _)
theorem fldK {e : Expr} {f : Str} {pos : Pos} {ta : TE} (K : PySem.W.Frag) (he : PE X e ta) (hb : attributeBase e f X.env (eval e X.env) = eval e X.env := by rfl) (eK : X.K = K := by rfl) : PE X (.Attribute e f pos) (tFld K ta f) := by
  subst eK
  exact pe_fld he hb
end
end El
namespace El
open PySem PySem.Spec PyProof.Rows L2
open PySem.W (minOf maxOf DatumOrd HoldAll min_list_datum_default max_list_datum_default)
/-! ### min(xs, default=d), max(xs, default=d), xs of ints -/
def rMinDf (K : PySem.W.Frag) : List V → List V → Hp → VK → Prop := fun vs zs H Q => ∃ (a : Addr) (ns : List Int) (v : V), vs = [.ref a] ∧ zs = [v] ∧ SqL K H a (ns.map V.int) ∧ (ns = [] → Q v H) ∧ ∀ m, m ∈ ns → (∀ y, y ∈ ns → m ≤ y) → Q (.int m) H
def rMaxDf (K : PySem.W.Frag) : List V → List V → Hp → VK → Prop := fun vs zs H Q => ∃ (a : Addr) (ns : List Int) (v : V), vs = [.ref a] ∧ zs = [v] ∧ SqL K H a (ns.map V.int) ∧ (ns = [] → Q v H) ∧ ∀ m, m ∈ ns → (∀ y, y ∈ ns → y ≤ m) → Q (.int m) H
theorem minOf_is : ∀ (ys : List Int) (y : Int), minOf y ys ∈ y :: ys ∧ ∀ z ∈ y :: ys, minOf y ys ≤ z
  | [], y => ⟨List.mem_cons_self, fun z m => by rw [List.mem_singleton.mp m]; exact Int.le_refl _⟩
  | x :: ys, y => by
    show minOf (if DatumOrd.lt x y = true then x else y) ys ∈ _ ∧ _
    obtain ⟨h1, h2⟩ := minOf_is ys (if DatumOrd.lt x y = true then x else y)
    have hxy : DatumOrd.lt x y = decide (x < y) := rfl
    rw [hxy] at h1 h2
    show minOf (if DatumOrd.lt x y = true then x else y) ys ∈ y :: x :: ys ∧ ∀ z ∈ y :: x :: ys, minOf (if DatumOrd.lt x y = true then x else y) ys ≤ z
    rw [hxy]
    by_cases h : x < y
    · rw [decide_eq_true h, if_pos rfl] at h1 h2 ⊢
      refine ⟨List.mem_cons_of_mem _ h1, fun z m => ?_⟩
      rcases List.mem_cons.mp m with rfl | m
      · have := h2 x List.mem_cons_self
        omega
      · exact h2 z m
    · rw [decide_eq_false h, if_neg Bool.false_ne_true] at h1 h2 ⊢
      refine ⟨?_, fun z m => ?_⟩
      · rcases List.mem_cons.mp h1 with e | m
        · rw [e]; exact List.mem_cons_self
        · exact List.mem_cons_of_mem _ (List.mem_cons_of_mem _ m)
      · rcases List.mem_cons.mp m with rfl | m
        · exact h2 _ List.mem_cons_self
        · rcases List.mem_cons.mp m with rfl | m
          · have := h2 y List.mem_cons_self
            omega
          · exact h2 z (List.mem_cons_of_mem _ m)
theorem maxOf_is : ∀ (ys : List Int) (y : Int), maxOf y ys ∈ y :: ys ∧ ∀ z ∈ y :: ys, z ≤ maxOf y ys
  | [], y => ⟨List.mem_cons_self, fun z m => by rw [List.mem_singleton.mp m]; exact Int.le_refl _⟩
  | x :: ys, y => by
    show maxOf (if DatumOrd.lt y x = true then x else y) ys ∈ y :: x :: ys ∧ ∀ z ∈ y :: x :: ys, z ≤ maxOf (if DatumOrd.lt y x = true then x else y) ys
    obtain ⟨h1, h2⟩ := maxOf_is ys (if DatumOrd.lt y x = true then x else y)
    have hxy : DatumOrd.lt y x = decide (y < x) := rfl
    rw [hxy] at h1 h2 ⊢
    by_cases h : y < x
    · rw [decide_eq_true h, if_pos rfl] at h1 h2 ⊢
      refine ⟨List.mem_cons_of_mem _ h1, fun z m => ?_⟩
      rcases List.mem_cons.mp m with rfl | m
      · have := h2 x List.mem_cons_self
        omega
      · exact h2 z m
    · rw [decide_eq_false h, if_neg Bool.false_ne_true] at h1 h2 ⊢
      refine ⟨?_, fun z m => ?_⟩
      · rcases List.mem_cons.mp h1 with e | m
        · rw [e]; exact List.mem_cons_self
        · exact List.mem_cons_of_mem _ (List.mem_cons_of_mem _ m)
      · rcases List.mem_cons.mp m with rfl | m
        · exact h2 _ List.mem_cons_self
        · rcases List.mem_cons.mp m with rfl | m
          · have := h2 y List.mem_cons_self
            omega
          · exact h2 z (List.mem_cons_of_mem _ m)
section
variable {X : Cx}
theorem cr_minDf (K : PySem.W.Frag) (hu : X.A.units + 64 < cLine) (hc : X.calm = true) (e : X.K = K := by rfl) : CallRK X (.builtin "min") [Str.ofString "default"] (rMinDf K) := by
  subst e
  intro pins s σ H vs0 zs us ws Q I r rz h
  obtain ⟨a, ns, v, rfl, rfl, hs, q0, q1⟩ := h
  obtain rfl := Vals.ref1 r
  obtain ⟨w1, rfl, e1⟩ := vals1 rz
  obtain ⟨its, rv, hl, _⟩ := I.list hs
  refine min_list_datum_default (I.ok.hd hc) hl.isList (HoldAll.of_ints rv.ints) (by show X.A.units + 1 + 0 < cLine; omega) (fun e0 h' tk k => ⟨v, H, I.kept k, e1, q0 e0⟩) fun y ys i u h' tk en hi hm k => ?_
  obtain ⟨h1, h2⟩ := minOf_is ys y
  rw [← en] at h1 h2
  obtain ⟨as, hm⟩ := hm
  cases hm
  exact ⟨.int (minOf y ys), H, I.kept k, ⟨_, rfl⟩, q1 _ h1 h2⟩
theorem cr_maxDf (K : PySem.W.Frag) (hu : X.A.units + 64 < cLine) (hc : X.calm = true) (e : X.K = K := by rfl) : CallRK X (.builtin "max") [Str.ofString "default"] (rMaxDf K) := by
  subst e
  intro pins s σ H vs0 zs us ws Q I r rz h
  obtain ⟨a, ns, v, rfl, rfl, hs, q0, q1⟩ := h
  obtain rfl := Vals.ref1 r
  obtain ⟨w1, rfl, e1⟩ := vals1 rz
  obtain ⟨its, rv, hl, _⟩ := I.list hs
  refine max_list_datum_default (I.ok.hd hc) hl.isList (HoldAll.of_ints rv.ints) (by show X.A.units + 1 + 0 < cLine; omega) (fun e0 h' tk k => ⟨v, H, I.kept k, e1, q0 e0⟩) fun y ys i u h' tk en hi hm k => ?_
  obtain ⟨h1, h2⟩ := maxOf_is ys y
  rw [← en] at h1 h2
  obtain ⟨as, hm⟩ := hm
  cases hm
  exact ⟨.int (maxOf y ys), H, I.kept k, ⟨_, rfl⟩, q1 _ h1 h2⟩
end
end El
namespace El
open PySem PySem.Spec PyProof.Rows L2
/-! ### max of a list of pairs of ints -/
def pLe (a b : Int × Int) : Prop := a.1 < b.1 ∨ (a.1 = b.1 ∧ a.2 ≤ b.2)
theorem pLe.refl (a : Int × Int) : pLe a a := .inr ⟨rfl, Int.le_refl _⟩
theorem pLe.trans {a b c : Int × Int} (h : pLe a b) (k : pLe b c) : pLe a c := by
  unfold pLe at *
  omega
theorem pLt_yes {a b : Int × Int} (h : PySem.W.DatumOrd.lt a b = true) : pLe a b := by
  have e : PySem.W.DatumOrd.lt a b = if a.1 = b.1 then decide (a.2 < b.2) else decide (a.1 < b.1) := rfl
  rw [e] at h
  unfold pLe
  by_cases q : a.1 = b.1
  · rw [if_pos q] at h
    have := of_decide_eq_true h
    exact .inr ⟨q, by omega⟩
  · rw [if_neg q] at h
    exact .inl (of_decide_eq_true h)
theorem pLt_no {a b : Int × Int} (h : ¬ PySem.W.DatumOrd.lt a b = true) : pLe b a := by
  have e : PySem.W.DatumOrd.lt a b = if a.1 = b.1 then decide (a.2 < b.2) else decide (a.1 < b.1) := rfl
  rw [e] at h
  unfold pLe
  by_cases q : a.1 = b.1
  · rw [if_pos q, decide_eq_true_eq] at h
    exact .inr ⟨q.symm, by omega⟩
  · rw [if_neg q, decide_eq_true_eq] at h
    exact .inl (by omega)
theorem greatest : ∀ (ys : List (Int × Int)) (y : Int × Int), PySem.W.maxOf y ys ∈ y :: ys ∧ ∀ z ∈ y :: ys, pLe z (PySem.W.maxOf y ys)
  | [], y => ⟨List.mem_cons_self, fun z m => List.mem_singleton.mp m ▸ pLe.refl _⟩
  | x :: ys, y => by
    have e : PySem.W.maxOf y (x :: ys) = PySem.W.maxOf (if PySem.W.DatumOrd.lt y x = true then x else y) ys := rfl
    obtain ⟨h1, h2⟩ := greatest ys (if PySem.W.DatumOrd.lt y x = true then x else y)
    rw [e]
    by_cases q : PySem.W.DatumOrd.lt y x = true
    · rw [if_pos q] at h1 h2 ⊢
      refine ⟨List.mem_cons_of_mem _ h1, fun z m => ?_⟩
      rcases List.mem_cons.mp m with rfl | m
      · exact (pLt_yes q).trans (h2 x List.mem_cons_self)
      · exact h2 z m
    · rw [if_neg q] at h1 h2 ⊢
      refine ⟨?_, fun z m => ?_⟩
      · exact (List.mem_cons.mp h1).elim (fun z => by rw [z]; exact List.mem_cons_self) fun m => List.mem_cons_of_mem _ (List.mem_cons_of_mem _ m)
      · rcases List.mem_cons.mp m with rfl | m
        · exact h2 _ List.mem_cons_self
        · rcases List.mem_cons.mp m with rfl | m
          · exact (pLt_no q).trans (h2 y List.mem_cons_self)
          · exact h2 z (List.mem_cons_of_mem _ m)
def rMaxP (K : PySem.W.Frag) : List V → Hp → VK → Prop := fun vs H Q => ∃ (B : Addr → Prop) (a : Addr) (ts : List Addr) (gs : List (Int × Int)), vs = [.ref a] ∧ GsAt H B a ts gs ∧ gs ≠ [] ∧
  ∀ (i : Nat) (t : Addr) (g : Int × Int), ts[i]? = some t → gs[i]? = some g → (∀ h ∈ gs, pLe h g) → Q (.ref t) H
theorem cr_maxP {X : Cx} (K : PySem.W.Frag) (hu : X.A.units + 64 < cLine) (hc : X.calm = true) (e : X.K = K := by rfl) : CallR X (.builtin "max") (rMaxP K) := by
  subst e
  intro pins s σ H xs us Q I r h
  obtain ⟨B, a, ts, gs, rfl, hG, hne, q⟩ := h
  obtain rfl := Vals.ref1 r
  obtain ⟨its, rv, hl, _⟩ := I.list (hG.seq (K := X.K))
  obtain ⟨as, ra⟩ := Dp.readsAll I (gs.map fun g => PyData.tuple [.int g.1, .int g.2]) (ts.map V.ref) its (dpAll_of (by rw [List.length_map, List.length_map, hG.len]) fun i v d e f => by
    obtain ⟨t, g, rfl, eg, et⟩ := hG.get e
    rw [List.getElem?_map, eg] at f
    obtain rfl := Option.some.inj f
    exact .tup (SqT.of et) (.cons (.int _) (.cons (.int _) .nil))) rv
  have hh : PySem.W.HoldAll s.heap its gs := ⟨as, ra⟩
  cases gs with
  | nil => exact absurd rfl hne
  | cons y ys =>
    refine PySem.W.max_list_datum (x := y) (xs := ys) (I.ok.hd hc) hl.isList hh (by show X.A.units + 1 + 1 < cLine; omega) fun i v h' tk hi hm k => ?_
    have hi' : its[i]? = some v := by simpa using hi
    obtain ⟨g, eg, hg⟩ := hh.at hi'
    have hil : i < (ts.map V.ref).length := by
      rw [rv.length]
      exact at_lt hi'
    obtain ⟨x, ex⟩ := at_some hil
    obtain ⟨u, eu, ru⟩ := rv.get ex
    obtain rfl : u = v := Option.some.inj (eu.symm.trans hi')
    obtain ⟨t, et, rfl⟩ := refs_at ex
    obtain ⟨b1, r1⟩ := PySem.W.Holds.keeps k hg
    obtain ⟨b2, r2⟩ := hm
    have ed := (Reads.unique r1 _ _ r2).1
    have eqg : g = PySem.W.maxOf y ys := by
      have e1 : (PyData.tuple [.int g.1, .int g.2]) = PyData.tuple [.int (PySem.W.maxOf y ys).1, .int (PySem.W.maxOf y ys).2] := ed
      injection e1 with e1
      injection e1 with e2 e3
      injection e2 with e2
      injection e3 with e3 _
      injection e3 with e3
      exact Prod.ext e2 e3
    exact ⟨.ref t, H, I.kept k, ru, q i t g et eg (by rw [eqg]; exact (greatest ys y).2)⟩
end El
namespace El
open PySem PySem.Spec PyProof.Rows L2
def topS (i : Nat) : Stmt := PySem.Challenge.pw_elderinn_k12_whole_histories_by_age.main.body.getD i (.Pass ⟨0, 0, 0, 0⟩)
end El
namespace El
open PySem PySem.Spec PyProof.Rows L2
/-- [x for x in A if f(x)] -/
theorem lc_sel {K : PySem.W.Frag} {a D : Addr} {A : List Int} {i : Nat} {tt : TT} {te : TE} {vs : List Nat} {σ : L2.St} {H1 : Hp} {Qd : Hp → Prop} (f : Int → Bool) (hA : H1 a = some (.lst (A.map V.int))) (hD : H1 D = none) (hl : A.length ≤ 1000)
    (ht : ∀ (z : Int) (H' : Hp) (Q : Bool → Hp → Prop), Q (f z) H' → tt ((wipe σ vs).set i (some (.int z))) H' Q)
    (he : ∀ (z : Int) (H' : Hp) (Q : VK), Q (.int z) H' → te ((wipe σ vs).set i (some (.int z))) H' Q) (hw : ∀ z : Int, wipe ((wipe σ vs).set i (some (.int z))) vs = wipe σ vs)
    (hd : ∀ H2, Same H1 H2 → H2 D = some (.lst ((A.filter f).map V.int)) → Qd H2) :
    ∃ W : Nat → Nat → Hp → Prop, (∃ m, W 0 m (upd H1 D (.lst []))) ∧ ∀ k m H, W k m H →
      ((Itl K a).stop k H ∧ Qd H) ∨ ((Itl K a).go k H ∧ ∃ Nx : Hp → Prop, (∀ H', Nx H' → ∃ m', m' < m ∧ W (k + 1) m' H') ∧ ∀ x H', (Itl K a).yld k H x H' → gName i x (wipe σ vs) H' fun σ2 H2 => wipe σ2 vs = wipe σ vs ∧ tt σ2 H2 fun b H3 =>
        if b = true then te σ2 H3 fun y H4 => ∃ acc, H4 D = some (.lst acc) ∧ acc.length < sizeLine ∧ Nx (upd H4 D (.lst (acc ++ [y]))) else Nx H3) := by
  refine lc_it (walk_list (xs := A.map V.int)) (fun k H2 => Same H1 H2 ∧ H2 D = some (.lst (((A.take k).filter f).map V.int))) ⟨same_new hD, upd_same⟩ (fun k H2 _ hW => SqL.of (hW.1 _ _ hA)) (fun k x H2 H3 hk hW hY => ?_) (fun H2 hW => ?_)
  · obtain ⟨sm, e⟩ := hW
    obtain ⟨rfl, hx⟩ := hY
    obtain ⟨z, ez, rfl⟩ := ints_at hx
    refine ⟨hw z, ht z H3 _ ?_⟩
    have hlb : ((A.take k).filter f).length ≤ 1000 := by
      refine Nat.le_trans (List.length_filter_le _ _) ?_
      rw [List.length_take]
      omega
    have es : (A.take (k + 1)).filter f = (A.take k).filter f ++ if f z = true then [z] else [] := by
      rw [take_snoc ez, List.filter_append, List.filter_cons, List.filter_nil]
    split
    · rename_i hb
      refine he z H3 _ ⟨_, e, ils (by rw [List.length_map]; omega), Same.mut sm hD, ?_⟩
      rw [upd_same, es, if_pos hb, List.map_append]
      rfl
    · rename_i hb
      refine ⟨sm, ?_⟩
      rw [es, if_neg hb, List.append_nil]
      exact e
  · obtain ⟨sm, e⟩ := hW
    rw [List.length_map, List.take_length] at e
    exact hd H2 sm e
/-- the same, where the test may make something -/
theorem lc_selG {K : PySem.W.Frag} {a D : Addr} {A : List Int} {i : Nat} {tt : TT} {te : TE} {vs : List Nat} {σ : L2.St} {H1 : Hp} {Qd : Hp → Prop} (f : Int → Bool) (hA : H1 a = some (.lst (A.map V.int))) (hD : H1 D = none) (hl : A.length ≤ 1000)
    (ht : ∀ (z : Int) (H' : Hp) (Q : Bool → Hp → Prop), Same H1 H' → (∀ H'', Same H' H'' → Q (f z) H'') → tt ((wipe σ vs).set i (some (.int z))) H' Q)
    (he : ∀ (z : Int) (H' : Hp) (Q : VK), Q (.int z) H' → te ((wipe σ vs).set i (some (.int z))) H' Q) (hw : ∀ z : Int, wipe ((wipe σ vs).set i (some (.int z))) vs = wipe σ vs)
    (hd : ∀ H2, Same H1 H2 → H2 D = some (.lst ((A.filter f).map V.int)) → Qd H2) :
    ∃ W : Nat → Nat → Hp → Prop, (∃ m, W 0 m (upd H1 D (.lst []))) ∧ ∀ k m H, W k m H →
      ((Itl K a).stop k H ∧ Qd H) ∨ ((Itl K a).go k H ∧ ∃ Nx : Hp → Prop, (∀ H', Nx H' → ∃ m', m' < m ∧ W (k + 1) m' H') ∧ ∀ x H', (Itl K a).yld k H x H' → gName i x (wipe σ vs) H' fun σ2 H2 => wipe σ2 vs = wipe σ vs ∧ tt σ2 H2 fun b H3 =>
        if b = true then te σ2 H3 fun y H4 => ∃ acc, H4 D = some (.lst acc) ∧ acc.length < sizeLine ∧ Nx (upd H4 D (.lst (acc ++ [y]))) else Nx H3) := by
  refine lc_it (walk_list (xs := A.map V.int)) (fun k H2 => Same H1 H2 ∧ H2 D = some (.lst (((A.take k).filter f).map V.int))) ⟨same_new hD, upd_same⟩ (fun k H2 _ hW => SqL.of (hW.1 _ _ hA)) (fun k x H2 H3 hk hW hY => ?_) (fun H2 hW => ?_)
  · obtain ⟨sm, e⟩ := hW
    obtain ⟨rfl, hx⟩ := hY
    obtain ⟨z, ez, rfl⟩ := ints_at hx
    refine ⟨hw z, ht z H3 _ sm fun H4 s4 => ?_⟩
    have hlb : ((A.take k).filter f).length ≤ 1000 := by
      refine Nat.le_trans (List.length_filter_le _ _) ?_
      rw [List.length_take]
      omega
    have es : (A.take (k + 1)).filter f = (A.take k).filter f ++ if f z = true then [z] else [] := by
      rw [take_snoc ez, List.filter_append, List.filter_cons, List.filter_nil]
    split
    · rename_i hb
      refine he z H4 _ ⟨_, s4 _ _ e, ils (by rw [List.length_map]; omega), Same.mut (sm.trans s4) hD, ?_⟩
      rw [upd_same, es, if_pos hb, List.map_append]
      rfl
    · rename_i hb
      refine ⟨sm.trans s4, ?_⟩
      rw [es, if_neg hb, List.append_nil]
      exact s4 _ _ e
  · obtain ⟨sm, e⟩ := hW
    rw [List.length_map, List.take_length] at e
    exact hd H2 sm e
end El
namespace El
open PySem PySem.Spec PyProof.Rows L2
section
variable {P : Program} {w : World} {K : PySem.W.Frag} {mg : Str → Option Value} {base : Heap}
abbrev s_check_newcomer : Stmt := topS 4
abbrev N_check_newcomer : List Str := ["patience_of", "age", "patience"]
abbrev P_check_newcomer : List Str := ["patience_of", "age", "patience"]
theorem sc_check_newcomer : FnScope N_check_newcomer P_check_newcomer (defScope s_check_newcomer) := ⟨rfl, rfl, rfl, by decide +kernel, rfl, by decide +kernel, by decide +kernel⟩
def sp_check_newcomer : Sp := fun vs H Q _ => ∃ (d : Addr) (gs : List (Int × Int)) (a p : Int), vs = [.ref d, .int a, .int p] ∧ H d = some (.dK (pks gs)) ∧ a ∉ gs.map (·.1) ∧ 0 ≤ p ∧ Q .non H
theorem ok_check_newcomer (A : At K mg "check_newcomer" P_check_newcomer s_check_newcomer) : Df P w K mg base 1 "check_newcomer" P_check_newcomer s_check_newcomer sp_check_newcomer := by
  refine A.df fun f fd F => F.ok sc_check_newcomer (fun vs H Q E h => ?_) (fun cdv AA outer s H vs Q E hr h => ?_)
  · obtain ⟨_, _, _, _, rfl, _⟩ := h
    rfl
  · obtain ⟨d, gs, a, p, rfl, hd, ha, hp, q⟩ := h
    have nd := sc_check_newcomer.nd
    refine ⟨_, (pss_one (ps_if (PW.pt (pw_or (pt_cmpR op_lt (pv 2) pe_int (nomark _)) (pw_or1 (pt_cmp (pc_din (hu_of hr) (pv 1) (pv 0)))))) (pss_one ps_never) pss_nil)), ?_⟩
    refine ⟨.int p, rfl, _, _, rfl, rfl, _, rfl, ?_⟩
    rw [decide_eq_false (by omega)]
    refine iteF ?_
    refine ⟨.int a, rfl, .ref d, rfl, d, _, rfl, DGet.k (k := Sum.inl a) hd, _, rfl, ?_⟩
    rw [pks_none ha]
    exact iteF q
end
end El
namespace El
open PySem PySem.Spec PyProof.Rows L2
section
variable {P : Program} {w : World} {K : PySem.W.Frag} {mg : Str → Option Value} {base : Heap}
abbrev s_eldest_upset : Stmt := topS 6
abbrev N_eldest_upset : List Str := ["patience_of", "room", "elders", "age"]
abbrev P_eldest_upset : List Str := ["patience_of", "room"]
theorem sc_eldest_upset : FnScope N_eldest_upset P_eldest_upset (defScope s_eldest_upset) := ⟨rfl, rfl, rfl, by decide +kernel, rfl, by decide +kernel, by decide +kernel⟩
/-- the value told -/
def upV : Option Int → V
  | some a => .int a
  | none => .non
def sp_eldest_upset : Sp := fun vs H Q _ => ∃ (d o : Addr) (ns : List Int) (gs : List (Int × Int)), vs = [.ref d, .ref o] ∧ H d = some (.dK (pks gs)) ∧ H o = some (.lst (ns.map V.int)) ∧ (∀ a ∈ ns, a ∈ gs.map (·.1)) ∧ (gs.map (·.1)).Nodup ∧ ns.length ≤ 1000 ∧
  ∀ H', Same H H' → Q (upV (eldUp gs ns)) H'
theorem ok_eldest_upset (A : At K mg "eldest_upset" P_eldest_upset s_eldest_upset) (B : Bi mg) : Df P w K mg base 1 "eldest_upset" P_eldest_upset s_eldest_upset sp_eldest_upset := by
  refine A.df fun f fd F => F.ok sc_eldest_upset (fun vs H Q E h => ?_) (fun cdv AA outer s H vs Q E hr h => ?_)
  · obtain ⟨_, _, _, _, rfl, _⟩ := h
    rfl
  · obtain ⟨d, o, ns, gs, rfl, hd, ho, hm, hn, hl, q⟩ := h
    have nd := sc_eldest_upset.nd
    refine ⟨_, (pss_cons (ps_for PassesOwn.never rfl (pi_enum (by rfl) B.enumerate (pa_cons (pe_callBK (cr_sortedRev (b := true)) (by rfl) B.sorted (by decide +kernel) (pa_cons (pv 1) pa_nil) (pk_cons pe_bl pk_nil)) pa_nil)) (pg_tup (by rfl) (pgs_cons (pg_name (i := 2) nd rfl (.inl rfl)) (pgs_cons (pg_name (i := 3) nd rfl (.inl rfl)) pgs_nil))) (pss_one (ps_if (pt_cmpR op_gt (pv 2) (pe_dget (hu_of hr) (pv 0) (pv 3) (fun _ _ => rfl)) (nomark _)) (pss_one (ps_ret (pv 3))) pss_nil)))
    (pss_one (ps_ret pe_non))), ?_⟩
    refine ⟨.ref o, rfl, o, ns, rfl, rfl, SqL.of ho, fun ms p hp hs np => ?_⟩
    have hms : ms = down ns := down_is hp hs
    subst hms
    refine ⟨p, _, rfl, SqL.of upd_same, ?_⟩
    have sm1 : Same H (upd H p (.lst ((down ns).map V.int))) := same_new np
    have ep : upd H p (.lst ((down ns).map V.int)) p = some (.lst ((down ns).map V.int)) := upd_same
    revert sm1 ep
    generalize upd H p (.lst ((down ns).map V.int)) = H1
    intro sm1 ep
    refine for_it (walk_enum (xs := (down ns).map V.int)) (fun i σ H2 => ∃ y2 y3, σ = [some (.ref d), some (.ref o), y2, y3] ∧ Same H1 H2 ∧ ∀ (j : Nat) (b : Int), j < i → (down ns)[j]? = some b → (j : Int) ≤ pof gs b)
      ⟨none, none, rfl, Same.refl _, fun j b h => absurd h (Nat.not_lt_zero _)⟩ (fun i σ H2 _ hW => ?_) (fun i x σ H2 H3 hi hW hY => ?_) (fun σ H2 hW => ?_)
    · obtain ⟨_, _, _, sm, _⟩ := hW
      exact SqL.of (sm _ _ ep)
    · obtain ⟨y2, y3, rfl, sm, hb⟩ := hW
      obtain ⟨T, x1, x2, rfl, nT, rfl, f1, f2⟩ := hY
      obtain rfl : V.int ↑i = x1 := Option.some.inj f1
      obtain ⟨a, ea, rfl⟩ := ints_at f2
      have s3 : Same H2 (upd H2 T (.tup [.int i, .int a])) := same_new nT
      refine ⟨T, [.int i, .int a], rfl, SqT.of upd_same, rfl, .int i, [.int a], rfl, .int a, [], rfl, rfl, ?_⟩
      have sm3 : Same H (upd H2 T (.tup [.int i, .int a])) := sm1.trans (sm.trans s3)
      have ha : a ∈ gs.map (·.1) := hm a ((down_perm ns).mem_iff.mp (List.mem_of_getElem? ea))
      refine ⟨.int i, rfl, .ref d, rfl, .int a, rfl, d, _, rfl, dget_pof (sm3 _ _ hd) hn ha, _, _, rfl, rfl, _, rfl, ite2 (fun e => ?_) (fun e => ?_)⟩
      · have e := of_decide_eq_true e
        have hu : eldUp gs ns = some a := upIn_at ea (fun j b hj eb => by have := hb j b hj eb; omega) (by omega)
        have z := q _ sm3
        rw [hu] at z
        exact ⟨.int a, rfl, z⟩
      · have e : ¬ (pof gs a < (i : Int)) := fun z => e (decide_eq_true z)
        refine ⟨_, _, rfl, sm.trans s3, fun j b hj eb => ?_⟩
        by_cases h : j < i
        · exact hb j b h eb
        · have : j = i := by omega
          subst this
          obtain rfl : a = b := Option.some.inj (ea.symm.trans eb)
          omega
    · obtain ⟨y2, y3, rfl, sm, hb⟩ := hW
      have hu : eldUp gs ns = none := upIn_none fun i a e => by
        have := hb i a (by rw [List.length_map]; exact at_lt e) e
        omega
      have z := q _ (sm1.trans sm)
      rw [hu] at z
      exact z
end
end El
namespace El
open PySem PySem.Spec PyProof.Rows L2
section
variable {P : Program} {w : World} {K : PySem.W.Frag} {mg : Str → Option Value} {base : Heap}
abbrev s_Inn___init__ : Stmt := inClass (topS 8) 0
abbrev N_Inn___init__ : List Str := ["self"]
abbrev P_Inn___init__ : List Str := ["self"]
theorem sc_Inn___init__ : FnScope N_Inn___init__ P_Inn___init__ (defScope s_Inn___init__) := ⟨rfl, rfl, rfl, by decide +kernel, rfl, by decide +kernel, by decide +kernel⟩
def sp_Inn___init__ (C : Addr) : Sp := fun vs H Q _ => ∃ (p dx : Addr), vs = [.ref p] ∧ H p = some (.ins C dx []) ∧ ∀ (d o : Addr) (H' : Hp), H d = none → H o = none → InnAt C H' (fun b => b = p ∨ H b = none) p d o [] [] [] → Kp (fun b => b ≠ p) H H' → Q .non H'
theorem ok_Inn___init__ {f C : Addr} {fd : FuncData} (F : Fun K "__init__" "Inn.__init__" s_Inn___init__ f fd) (T : InnT K mg C) : FnOk P w K mg base CX0 1 f fd P_Inn___init__ (sp_Inn___init__ C) := by
  refine F.ok sc_Inn___init__ (fun vs H Q E h => ?_) (fun cdv A outer s H vs Q E hr h => ?_)
  · obtain ⟨p, dx, rfl, _⟩ := h
    rfl
  · obtain ⟨p, dx, rfl, hp, q⟩ := h
    have nd := sc_Inn___init__.nd
    refine ⟨_, (pss_cons (ps_fld (pv 0) pe_dnewK rfl)
    (pss_one (ps_fld (pv 0) (pe_lst pa_nil) rfl))), ?_⟩
    intro d hd
    have npd : p ≠ d := ne_of_none hp hd
    refine ⟨_, rfl, p, C, dx, [], rfl, (by rw [upd_ne npd]; exact hp), T.cl, T.nP, (by show 0 < 1000; decide), ?_⟩
    refine ⟨Nat.zero_le _, fun o no => ?_⟩
    have npo : p ≠ o := ne_of_none (o := .ins C dx (putF "_patience_of" (.ref d) [])) upd_same no
    have ndo : d ≠ o := fun z => by
      rw [← z, upd_ne npd.symm, upd_same] at no
      cases no
    have no' : H o = none := by
      rw [upd_ne npo.symm, upd_ne ndo.symm] at no
      exact no
    refine ⟨_, rfl, p, C, dx, _, rfl, (by rw [upd_ne npo]; exact upd_same), T.cl, T.nR, (by show 1 < 1000; decide), ?_⟩
    refine q d o _ hd no' ⟨⟨dx, upd_same⟩, ?_, RmsAt.nil ?_ (.inr no'), .inl rfl, .inr hd⟩ fun b u hb e => ?_
    · rw [upd_ne npd.symm, upd_ne ndo, upd_ne npd.symm, upd_same]
      rfl
    · rw [upd_ne npo.symm, upd_same]
    · rw [upd_ne hb, upd_ne (ne_of_none e no'), upd_ne hb, upd_ne (ne_of_none e hd)]
      exact e
end
end El
namespace El
open PySem PySem.Spec PyProof.Rows L2
section
variable {P : Program} {w : World} {K : PySem.W.Frag} {mg : Str → Option Value} {base : Heap}
abbrev s_Inn__enter : Stmt := inClass (topS 8) 11
abbrev N_Inn__enter : List Str := ["self", "age", "number"]
abbrev P_Inn__enter : List Str := ["self", "age", "number"]
theorem sc_Inn__enter : FnScope N_Inn__enter P_Inn__enter (defScope s_Inn__enter) := ⟨rfl, rfl, rfl, by decide +kernel, rfl, by decide +kernel, by decide +kernel⟩
/-- only the list of the rooms is changed, all else is new -/
def sp_Inn__enter (C : Addr) : Sp := fun vs H Q _ => ∃ (B : Addr → Prop) (p d o : Addr) (ts : List Addr) (gs : List (Int × Int)) (rs : List (List Int)) (a : Int) (i : Nat), vs = [.ref p, .int a, .int i] ∧ InnAt C H B p d o ts gs rs ∧ i ≤ rs.length ∧ rs.length ≤ 1000 ∧ (∀ r ∈ rs, r.length ≤ 1000) ∧
  ∀ H' ts', RmsAt H' (fun b => B b ∨ H b = none) o ts' (enterR rs i a) → Kp (fun b => b ≠ o) H H' → Q .non H'
theorem ok_Inn__enter {C : Addr} (A : Ma K C "_enter" "Inn._enter" P_Inn__enter s_Inn__enter) (B : Bi mg) (T : InnT K mg C) : Mf P w K mg base 1 C "_enter" "Inn._enter" P_Inn__enter s_Inn__enter (sp_Inn__enter C) := by
  refine A.mf fun f fd F => F.ok sc_Inn__enter (fun vs H Q E h => ?_) (fun cdv AA outer s H vs Q E hr h => ?_)
  · obtain ⟨_, _, _, _, _, _, _, _, _, rfl, _⟩ := h
    rfl
  · obtain ⟨BB, p, d, o, ts, gs, rs, a, i, rfl, hI, hi, hl, hm, q⟩ := h
    have nd := sc_Inn__enter.nd
    refine ⟨_, (pss_cons (ps_if (pt_cmpR op_eq (pv 2) (pe_callB call_len_seq (by rfl) B.len PySem.boot_len (pa_cons (pe_fld (pv 0) rfl) pa_nil)) (nomark _)) (pss_one (ps_expr (pe_bm PySem.F.plainAttrs_list PySem.F.slot_list_append PySem.F.type_list_append mt_append (pe_fld (pv 0) rfl) (pa_cons (pe_lst pa_nil) pa_nil)))) pss_nil)
    (pss_one (ps_asg (pe_callBK (cr_sortedRev (b := true)) (by rfl) B.sorted (by decide +kernel) (pa_cons (pe_op op_cat (pe_ix ix_list (pe_fld (pv 0) rfl) (pv 2) (fun _ _ => rfl)) (pe_lst (pa_cons (pv 1) pa_nil))) pa_nil) (pk_cons pe_bl pk_nil)) (pg_sub (pe_fld (pv 0) rfl) (pv 2) set_list)))), ?_⟩
    obtain ⟨dx, hp⟩ := hI.ob
    have hR := hI.rm.weaken (B' := fun b => BB b ∨ H b = none) fun b z => .inl z
    refine seq_to (fun σ H1 => σ = [some (.ref p), some (.int a), some (.int i)] ∧ Kp (fun b => b ≠ o) H H1 ∧ ∃ ts1 rs1 r, RmsAt H1 (fun b => BB b ∨ H b = none) o ts1 rs1 ∧ rs1[i]? = some r ∧ r.length ≤ 1000 ∧ enterR rs i a = rs1.set i (down (r ++ [a]))) (fun X hX => ?_) (fun σ H1 hE => ?_)
    · refine ⟨_, rfl, _, rfl, p, C, dx, _, _, rfl, hp, T.cl, T.nR, iflds_r _ _, o, _, rfl, .inl hI.rm.seq, rfl, _, rfl, ite2 (fun e => ?_) (fun e => ?_)⟩
      · have e := V.int.inj (of_decide_eq_true e)
        rw [List.length_map, hI.rm.len] at e
        have e : i = rs.length := by omega
        refine ⟨_, rfl, p, C, dx, _, _, rfl, hp, T.cl, T.nR, iflds_r _ _, .inl ⟨rfl, _, hI.rm.seq⟩, Nat.zero_le _, fun u nu => ?_⟩
        have nuo : o ≠ u := ne_of_none hI.rm.top nu
        refine ⟨o, _, _, rfl, rfl, (by rw [upd_ne nuo]; exact hI.rm.top), ils (by rw [List.length_map, hI.rm.len]; omega), ?_⟩
        refine hX _ _ ⟨rfl, Kp.mut (Kp.new Kp.refl nu) (fun z => z rfl), _, _, [], hR.push (r := []) nu (.inr nu), ?_, Nat.zero_le _, ?_⟩
        · rw [e, List.getElem?_append_right (Nat.le_refl _), Nat.sub_self]
          rfl
        · rw [e, enterR_new, List.set_append_right _ _ (Nat.le_refl _), Nat.sub_self]
          have e1 : down ([] ++ [a]) = [a] := (down_is (.refl _) (List.pairwise_singleton _ _)).symm
          rw [e1]
          rfl
      · have hlt : i < rs.length := by
          rcases Nat.lt_or_ge i rs.length with z | z
          · exact z
          · exfalso
            refine e (decide_eq_true ?_)
            rw [List.length_map, hI.rm.len]
            congr 1
            omega
        obtain ⟨r, er⟩ := at_some hlt
        exact hX _ _ ⟨rfl, Kp.refl, ts, rs, r, hR, er, hm r (List.mem_of_getElem? er), enterR_old a er⟩
    · obtain ⟨rfl, k1, ts1, rs1, r, hR1, er, hr1, ee⟩ := hE
      have hp1 := k1 _ _ hI.po hp
      obtain ⟨t, et, eh⟩ := hR1.of er
      have hi1 : i < rs1.length := at_lt er
      -- self._rooms[number] + [age]
      refine ⟨_, rfl, p, C, dx, _, _, rfl, hp1, T.cl, T.nR, iflds_r _ _, _, rfl, o, _, _, .ref t, rfl, rfl, SqL.of hR1.top, atI_nat (j := i) ?_, ?_⟩
      · rw [List.getElem?_map, et]
        rfl
      refine ⟨_, rfl, (by show 1 ≤ _; decide +kernel), fun u nu => ?_⟩
      have ntu : t ≠ u := ne_of_none eh nu
      refine ⟨t, u, _, _, rfl, rfl, (by rw [upd_ne ntu]; exact eh), upd_same, (by rw [List.length_map]; exact Nat.le_of_lt (ils (n := r.length + 1) (by omega))), fun v nv => ?_⟩
      have ev : r.map V.int ++ [V.int a] = (r ++ [a]).map V.int := by
        rw [List.map_append]
        rfl
      rw [ev]
      refine ⟨v, r ++ [a], rfl, rfl, SqL.of upd_same, fun ms z hp2 hs nz => ?_⟩
      have hms : ms = down (r ++ [a]) := down_is hp2 hs
      subst hms
      have s1 : Same H1 (upd (upd (upd H1 u (.lst [.int a])) v (.lst ((r ++ [a]).map V.int))) z (.lst ((down (r ++ [a])).map V.int))) := (same_new nu).trans ((same_new nv).trans (same_new nz))
      have nz1 : H1 z = none := ((same_new (o := .lst [.int a]) nu).trans (same_new nv)).free nz
      have ez : upd (upd (upd H1 u (.lst [.int a])) v (.lst ((r ++ [a]).map V.int))) z (.lst ((down (r ++ [a])).map V.int)) z = some (.lst ((down (r ++ [a])).map V.int)) := upd_same
      revert s1 ez
      generalize upd (upd (upd H1 u (.lst [.int a])) v (.lst ((r ++ [a]).map V.int))) z (.lst ((down (r ++ [a])).map V.int)) = H2
      intro s1 ez
      have hR2 := hR1.same s1
      -- self._rooms[number] = ..
      refine ⟨_, rfl, p, C, dx, _, _, rfl, s1 _ _ hp1, T.cl, T.nR, iflds_r _ _, _, rfl, o, _, _, i, rfl, rfl, hR2.top, ixN_of (by rw [List.length_map, hR2.len]; exact hi1), ?_⟩
      have zo : z ≠ o := (no_of hR1.top nz1)
      have zt : z ∉ ts1 := fun m => by
        obtain ⟨x, ex⟩ := hR1.lives m
        rw [nz1] at ex
        cases ex
      have k2 : Kp (fun b => b ≠ o) H H2 := k1.trans (.of s1)
      have nzH : H z = none := k1.none zo nz1
      have fin := hR2.put hi1 ez (.inr nzH) zt zo
      rw [← ee, List.map_set] at fin
      exact q _ _ fin (k2.mut fun z => z rfl)
end
end El
namespace El
open PySem PySem.Spec PyProof.Rows L2
section
variable {P : Program} {w : World} {K : PySem.W.Frag} {mg : Str → Option Value} {base : Heap}
abbrev s_Inn_come : Stmt := inClass (topS 8) 1
abbrev N_Inn_come : List Str := ["self", "age", "patience", "told", "mover", "number"]
abbrev P_Inn_come : List Str := ["self", "age", "patience"]
theorem sc_Inn_come : FnScope N_Inn_come P_Inn_come (defScope s_Inn_come) := ⟨rfl, rfl, rfl, by decide +kernel, rfl, by decide +kernel, by decide +kernel⟩
/-- all that is new or the Inn's own, but for the list told -/
abbrev Apart (B : Addr → Prop) (H : Hp) (q : Addr) (us : List Addr) : Addr → Prop := fun b => (B b ∨ H b = none) ∧ b ≠ q ∧ b ∉ us
def sp_Inn_come (C : Addr) : Sp := fun vs H Q _ => ∃ (B : Addr → Prop) (p d o : Addr) (ts : List Addr) (gs : List (Int × Int)) (x : Int × Int), vs = [.ref p, .int x.1, .int x.2] ∧ InnAt C H B p d o ts gs (settle gs) ∧ Fit (gs ++ [x]) ∧ gs.length ≤ 400 ∧
  ∀ H' q us ts', InnAt C H' (Apart B H q us) p d o ts' (gs ++ [x]) (settle (gs ++ [x])) → GsAt H' (fun b => H b = none) q us (comeT gs x) → Kp (fun b => ¬ B b) H H' → (∀ b, H' b = none → H b = none) → Q (.ref q) H'
theorem GsAt.offTs {H : Hp} {B : Addr → Prop} {a : Addr} {ts : List Addr} {gs : List (Int × Int)} (h : GsAt H B a ts gs) : a ∉ ts := fun m => by
  obtain ⟨i, e⟩ := List.mem_iff_getElem?.mp m
  have hl := at_lt e
  rw [h.len] at hl
  obtain ⟨g, eg⟩ := at_some hl
  have e1 := h.at' i a g e eg
  rw [h.top] at e1
  cases e1
/-- the loop of come -/
def CoW (C : Addr) (B : Addr → Prop) (H : Hp) (p d o q : Addr) (gs : List (Int × Int)) (x : Int × Int) (m : Nat) (σ : L2.St) (H2 : Hp) : Prop :=
  ∃ (T : List (Int × Int)) (us ts' : List Addr) (rs' : List (List Int)) (y4 : V) (y5 : Option V), σ = [some (.ref p), some (.int x.1), some (.int x.2), some (.ref q), some y4, y5] ∧ GsAt H2 (fun b => H b = none) q us T ∧ InnAt C H2 (Apart B H q us) p d o ts' (gs ++ [x]) rs' ∧ Kp (fun b => ¬ B b) H H2 ∧ (∀ b, H2 b = none → H b = none) ∧
    ((∃ (i : Nat) (x' : Int × Int), y4 = .int x'.1 ∧ m + i = (settle (gs ++ [x])).length ∧ Mid (gs ++ [x]) rs' i x' ∧ T.length = i ∧ comeT gs x = T ++ (comeF m (gs ++ [x]) rs' i x'.1).1) ∨ (y4 = .non ∧ m = 0 ∧ T = comeT gs x ∧ rs' = settle (gs ++ [x])))
theorem ok_Inn_come {C : Addr} (A : Ma K C "come" "Inn.come" P_Inn_come s_Inn_come) (B : Bi mg) (T : InnT K mg C) (D_check_newcomer : Df P w K mg base 1 "check_newcomer" P_check_newcomer s_check_newcomer sp_check_newcomer)
    (D_eldest_upset : Df P w K mg base 1 "eldest_upset" P_eldest_upset s_eldest_upset sp_eldest_upset) (M__enter : Mf P w K mg base 1 C "_enter" "Inn._enter" P_Inn__enter s_Inn__enter (sp_Inn__enter C)) : Mf P w K mg base 2 C "come" "Inn.come" P_Inn_come s_Inn_come (sp_Inn_come C) := by
  refine A.mf fun f fd F => F.ok sc_Inn_come (fun vs H Q E h => ?_) (fun cdv AA outer s H vs Q E hr h => ?_)
  · obtain ⟨_, _, _, _, _, _, _, rfl, _⟩ := h
    rfl
  · obtain ⟨BB, p, d, o, ts, gs, x, rfl, hI, hF, hl, q1⟩ := h
    have nd := sc_Inn_come.nd
    refine ⟨_, (pss_cons (ps_expr (pe_df D_check_newcomer (hr.mono (by decide)) (by rfl) (pa_cons (pe_fld (pv 0) rfl) (pa_cons (pv 1) (pa_cons (pv 2) pa_nil)))))
    (pss_cons (ps_dput (hu_of hr) (pe_fld (pv 0) rfl) (pv 1) (pv 2) rfl)
    (pss_cons (ps_set (i := 3) nd rfl (.inl rfl) (pe_lst pa_nil))
    (pss_cons (ps_set (i := 4) nd rfl (.inl rfl) (pv 1))
    (pss_cons (ps_while PassesOwn.never (pt_cmpR op_notN (pv 4) pe_non (nomark _)) (pss_cons (ps_set (i := 5) nd rfl (.inl rfl) (pe_callB call_len_seq (by rfl) B.len PySem.boot_len (pa_cons (pv 3) pa_nil))) (pss_cons (ps_expr (pe_mf M__enter T.cl (hr.mono (by decide)) (pv 0) (pa_cons (pv 4) (pa_cons (pv 5) pa_nil)))) (pss_cons (ps_expr (pe_bm PySem.F.plainAttrs_list PySem.F.slot_list_append PySem.F.type_list_append mt_append (pv 3) (pa_cons (pe_tup (pa_cons (pv 4) (pa_cons (pv 5) pa_nil))) pa_nil))) (pss_cons (ps_set (i := 4) nd rfl (.inl rfl) (pe_df D_eldest_upset (hr.mono (by decide)) (by rfl) (pa_cons (pe_fld (pv 0) rfl) (pa_cons (pe_ix ix_list (pe_fld (pv 0) rfl) (pv 5) (fun _ _ => rfl)) pa_nil)))) (pss_one (ps_if (pt_cmpR op_notN (pv 4) pe_non (nomark _)) (pss_one (ps_expr (pe_bm PySem.F.plainAttrs_list PySem.F.slot_list_remove PySem.F.type_list_remove mt_remove (pe_ix ix_list (pe_fld (pv 0) rfl) (pv 5) (fun _ _ => rfl)) (pa_cons (pv 4) pa_nil)))) pss_nil)))))))
    (pss_one (ps_ret (pv 3)))))))), ?_⟩
    obtain ⟨dx, hp⟩ := hI.ob
    have hx : x.1 ∉ gs.map (·.1) := by
      have := hF.nd
      rw [List.map_append, List.nodup_append] at this
      exact fun m => this.2.2 _ m x.1 (by simp) rfl
    have hx0 : 0 ≤ x.2 := hF.pos x (by simp)
    -- check_newcomer(self._patience_of, age, patience)
    refine ⟨_, rfl, p, C, dx, _, _, rfl, hp, T.cl, T.nP, iflds_p _ _, _, rfl, _, rfl, d, gs, x.1, x.2, rfl, hI.dc, hx, hx0, ?_⟩
    -- self._patience_of[age] = patience
    refine ⟨_, rfl, _, rfl, p, C, dx, _, _, rfl, hp, T.cl, T.nP, iflds_p _ _, _, rfl, d, _, rfl, DPut.k (k := Sum.inl x.1) hI.dc (ils (by rw [pks_len]; omega)), ?_⟩
    rw [putK_snoc hx]
    have nb : ∀ b, BB b → BB b ∨ H b = none := fun b z => .inl z
    have I1 : InnAt C (upd H d (.dK (pks (gs ++ [x])))) BB p d o ts (gs ++ [x]) (settle gs) := by
      refine ⟨⟨dx, by rw [upd_ne hI.pd]; exact hp⟩, upd_same, ?_, hI.bp, hI.bd⟩
      exact hI.rm.newTop (fun b u m e => by
        have : b ≠ d := by
          rcases m with rfl | m
          · exact hI.od
          · exact (hI.room m).2
        rw [upd_ne this]
        exact e) fun b m => by
          rcases m with rfl | m
          · exact hI.rm.bo
          · exact hI.rm.b b m
    have k1 : Kp (fun b => ¬ BB b) H (upd H d (.dK (pks (gs ++ [x])))) := Kp.mut Kp.refl fun z => z hI.bd
    have live1 : ∀ b, upd H d (.dK (pks (gs ++ [x]))) b = none → H b = none := fun b e => by
      by_cases z : b = d
      · rw [z, upd_same] at e
        cases e
      · rw [upd_ne z] at e
        exact e
    revert I1 k1 live1
    generalize upd H d (.dK (pks (gs ++ [x]))) = H1
    intro I1 k1 live1
    -- told = []
    refine ⟨Nat.zero_le _, fun q nq => ?_⟩
    have I2 : InnAt C (upd H1 q (.lst [])) (Apart BB H q []) p d o ts (gs ++ [x]) (settle gs) := (I1.reB (B' := Apart BB H q []) fun b z hb => ⟨.inl hb, (fun e => by
      obtain ⟨v, ev⟩ := z
      rw [e, nq] at ev
      cases ev), by simp⟩).same (same_new nq)
    have G2 : GsAt (upd H1 q (.lst [])) (fun b => H b = none) q [] [] := ⟨upd_same, live1 q nq, rfl, fun i t g e _ => by simp at e, fun t m => by simp at m⟩
    have k2 : Kp (fun b => ¬ BB b) H (upd H1 q (.lst [])) := k1.new nq
    have v2 : ∀ b, upd H1 q (.lst []) b = none → H b = none := fun b e => live1 b ((same_new nq).free e)
    revert I2 G2 k2 v2
    generalize upd H1 q (.lst []) = H2
    intro I2 G2 k2 v2
    -- mover = age
    refine ⟨_, rfl, ?_⟩
    dsimp only [gName]
    refine seq_to (fun σ H3 => ∃ us ts' y4 y5, σ = [some (.ref p), some (.int x.1), some (.int x.2), some (.ref q), y4, y5] ∧ GsAt H3 (fun b => H b = none) q us (comeT gs x) ∧ InnAt C H3 (Apart BB H q us) p d o ts' (gs ++ [x]) (settle (gs ++ [x])) ∧ Kp (fun b => ¬ BB b) H H3 ∧ (∀ b, H3 b = none → H b = none)) (fun X hX => ?_) (fun σ H3 hE => ?_)
    · refine while_to (CoW C BB H p d o q gs x) (fun σ H3 => ∃ us ts' y4 y5, σ = [some (.ref p), some (.int x.1), some (.int x.2), some (.ref q), y4, y5] ∧ GsAt H3 (fun b => H b = none) q us (comeT gs x) ∧ InnAt C H3 (Apart BB H q us) p d o ts' (gs ++ [x]) (settle (gs ++ [x])) ∧ Kp (fun b => ¬ BB b) H H3 ∧ (∀ b, H3 b = none → H b = none))
        ⟨(settle (gs ++ [x])).length, [], [], ts, settle gs, .int x.1, none, rfl, G2, I2, k2, v2, .inl ⟨0, x, rfl, rfl, Mid.start hF, rfl, rfl⟩⟩ hX (fun X hX m σ H3 hW => ?_)
      obtain ⟨TT, us, ts', rs', y4, y5, rfl, G3, I3, k3, v3, ⟨i, x', rfl, hmi, hM, hT, hco⟩ | ⟨rfl, rfl, rfl, rfl⟩⟩ := hW
      · refine ⟨_, rfl, rfl, _, rfl, ifYes (by show (!decide (V.int x'.1 = V.non)) = true; simp) ?_⟩
        refine ⟨fun σ' H' => ∃ m', m' < m ∧ CoW C BB H p d o q gs x m' σ' H', fun σ' H' h => h, ?_⟩
        obtain ⟨hi1, hi2, hl3, hm3, hx3⟩ := hM.first hF
        have lgs : (gs ++ [x]).length = gs.length + 1 := by
          rw [List.length_append]
          rfl
        -- number = len(told)
        refine ⟨.ref q, rfl, q, _, rfl, .inl G3.seq, ?_⟩
        rw [List.length_map, G3.len, hT]
        dsimp only [gName]
        -- self._enter(mover, number)
        obtain ⟨dx3, hp3⟩ := I3.ob
        refine ⟨_, rfl, p, dx3, _, rfl, hp3, iflds_no _ _ (by decide +kernel) (by decide +kernel), _, rfl, _, rfl, Apart BB H q us, p, d, o, ts', gs ++ [x], rs', x'.1, i, rfl, I3, hi2, by omega, fun r m => by have := hm3 r m; omega, fun H4 ts4 R4 k4 => ?_⟩
        have gone3 : ∀ b, H3 b = none → Apart BB H q us b := fun b e => by
          refine ⟨?_, fun z => ?_, fun z => ?_⟩
          · by_cases hb : BB b
            · exact .inl hb
            · exact .inr (k3.none hb e)
          · obtain ⟨v, ev⟩ := G3.there b (.inl z)
            rw [e] at ev
            cases ev
          · obtain ⟨v, ev⟩ := G3.there b (.inr z)
            rw [e] at ev
            cases ev
        have I4 : InnAt C H4 (Apart BB H q us) p d o ts4 (gs ++ [x]) (enterR rs' i x'.1) := ⟨⟨dx3, k4 _ _ I3.po hp3⟩, k4 _ _ I3.od.symm I3.dc, R4.weaken fun b z => z.elim id (gone3 b), I3.bp, I3.bd⟩
        have G4 : GsAt H4 (fun b => H b = none) q us TT := ((G3.reB (B' := fun b => H b = none ∧ b ≠ o) fun b m hb => ⟨hb, fun z => by
          rcases m with m | m
          · exact I3.rm.bo.2.1 (z.symm.trans m)
          · exact I3.rm.bo.2.2 (z ▸ m)⟩).keep (k4.weak fun b z => z.2)).weaken fun b z => z.1
        have k4' : Kp (fun b => ¬ BB b) H H4 := fun b u hb e => k4 b u (fun z => (z ▸ I3.rm.bo).1.elim (fun y => hb y) (fun y => by rw [y] at e; cases e)) (k3 b u hb e)
        obtain ⟨EE, eE, lE, inE, ndE, out⟩ := hM.step hF
        -- told.append((mover, number))
        refine ⟨.ref q, rfl, .inl ⟨rfl, _, G4.seq⟩, .int x'.1, rfl, .int i, rfl, (by show 2 ≤ sizeLine; decide), fun t nt => ?_⟩
        have G4t := G4.same (same_new (o := .tup [.int x'.1, .int i]) nt)
        have et : upd H4 t (.tup [.int x'.1, .int i]) t = some (.tup [.int ((x'.1, (i : Int)) : Int × Int).1, .int ((x'.1, (i : Int)) : Int × Int).2]) := upd_same
        have v4 : ∀ b, H4 b = none → H b = none := fun b e => v3 b (k4.none (fun z => by
          rw [z, R4.top] at e
          cases e) e)
        have htn : H t = none := v4 t nt
        refine ⟨q, _, _, rfl, rfl, G4t.top, ils (by rw [List.length_map, G4.len, hT]; omega), ?_⟩
        have G5 := G4t.push G4.offTs (g := (x'.1, (i : Int))) et htn
        have I5 : InnAt C (upd (upd H4 t (.tup [.int x'.1, .int i])) q (.lst (us.map V.ref ++ [.ref t]))) (Apart BB H q (us ++ [t])) p d o ts4 (gs ++ [x]) (enterR rs' i x'.1) :=
          ((I4.reB (B' := Apart BB H q (us ++ [t])) fun b z hb => ⟨hb.1, hb.2.1, fun m => (List.mem_append.mp m).elim hb.2.2 fun m => by
            obtain ⟨v, ev⟩ := z
            rw [List.mem_singleton.mp m, nt] at ev
            cases ev⟩).same (same_new nt)).keep (Kp.mut Kp.refl fun z => z.2.1 rfl)
        have k5 : Kp (fun b => ¬ BB b) H (upd (upd H4 t (.tup [.int x'.1, .int i])) q (.lst (us.map V.ref ++ [.ref t]))) := (k4'.new nt).mutF G4.ba
        have v5 : ∀ b, upd (upd H4 t (.tup [.int x'.1, .int i])) q (.lst (us.map V.ref ++ [.ref t])) b = none → H b = none := fun b e => by
          by_cases z : b = q
          · rw [z, upd_same] at e
            cases e
          · rw [upd_ne z] at e
            exact v4 b ((same_new nt).free e)
        revert G5 I5 k5 v5
        generalize upd (upd H4 t (.tup [.int x'.1, .int i])) q (.lst (us.map V.ref ++ [.ref t])) = H5
        intro G5 I5 k5 v5
        -- mover = eldest_upset(self._patience_of, self._rooms[number])
        obtain ⟨dx5, hp5⟩ := I5.ob
        obtain ⟨r5, er5, eh5⟩ := I5.rm.of eE
        have at5 : (ts4.map V.ref)[i]? = some (.ref r5) := by
          rw [List.getElem?_map, er5]
          rfl
        refine ⟨_, rfl, p, C, dx5, _, _, rfl, hp5, T.cl, T.nP, iflds_p _ _, _, rfl, p, C, dx5, _, _, rfl, hp5, T.cl, T.nR, iflds_r _ _, _, rfl, o, _, _, .ref r5, rfl, rfl, SqL.of I5.rm.top, atI_nat (j := i) at5, d, r5, EE, gs ++ [x], rfl, I5.dc, eh5, inE, hF.nd, by omega, fun H6 s6 => ?_⟩
        dsimp only [gName]
        have I6 := I5.same s6
        have G6 := G5.same s6
        have k6 := k5.trans (.of s6)
        have v6 : ∀ b, H6 b = none → H b = none := fun b e => v5 b (s6.free e)
        obtain ⟨m, rfl⟩ : ∃ m', m = m' + 1 := ⟨m - 1, by omega⟩
        rcases out with ⟨hu, hs⟩ | ⟨y, my, hu, hM'⟩
        · rw [hu]
          refine ⟨_, rfl, rfl, _, rfl, ifNo (by show (!decide (V.non = V.non)) = false; simp) ?_⟩
          rw [comeF_end eE hu] at hco
          exact ⟨0, by omega, TT ++ [(x'.1, (i : Int))], us ++ [t], ts4, _, .non, _, rfl, G6, I6, k6, v6, .inr ⟨rfl, rfl, hco.symm, hs⟩⟩
        · rw [hu]
          refine ⟨_, rfl, rfl, _, rfl, ifYes (by show (!decide (V.int y.1 = V.non)) = true; simp) ?_⟩
          rw [comeF_on eE hu] at hco
          obtain ⟨j, ej⟩ := List.mem_iff_getElem?.mp my
          refine ⟨_, rfl, p, C, dx5, _, _, rfl, s6 _ _ hp5, T.cl, T.nR, iflds_r _ _, _, rfl, o, _, _, .ref r5, rfl, rfl, SqL.of I6.rm.top, atI_nat (j := i) at5, .inl ⟨rfl, _, SqL.of (s6 _ _ eh5)⟩, .int y.1, rfl, r5, EE, y.1, j, rfl, rfl, s6 _ _ eh5, ej, fun l hl el => absurd (nd_ix ndE el ej) (by omega), ?_⟩
          rw [← erase_at ndE ej]
          have R7 := I6.rm.set er5 (EE.erase y.1)
          have br5 := I6.rm.b r5 (List.mem_of_getElem? er5)
          have no5 : r5 ≠ o := fun z => I6.rm.no (z ▸ List.mem_of_getElem? er5)
          have np5 := I6.room (List.mem_of_getElem? er5)
          have I7 : InnAt C (upd H6 r5 (.lst ((EE.erase y.1).map V.int))) (Apart BB H q (us ++ [t])) p d o ts4 (gs ++ [x]) ((enterR rs' i x'.1).set i (EE.erase y.1)) := I6.rooms (Kp.mut Kp.refl fun z => z.2 (List.mem_of_getElem? er5)) R7
          have G7 : GsAt (upd H6 r5 (.lst ((EE.erase y.1).map V.int))) (fun b => H b = none) q (us ++ [t]) (TT ++ [(x'.1, (i : Int))]) := ((G6.reB (B' := fun b => H b = none ∧ b ≠ r5) fun b m hb => ⟨hb, fun z => by
            rcases m with m | m
            · exact br5.2.1 (z.symm.trans m)
            · exact br5.2.2 (z ▸ m)⟩).keep (Kp.mut Kp.refl fun z => z.2 rfl)).weaken fun b z => z.1
          have k7 : Kp (fun b => ¬ BB b) H (upd H6 r5 (.lst ((EE.erase y.1).map V.int))) := by
            rcases br5.1 with z | z
            · exact k6.mut fun y => y z
            · exact k6.mutF z
          have v7 : ∀ b, upd H6 r5 (.lst ((EE.erase y.1).map V.int)) b = none → H b = none := fun b e => by
            by_cases z : b = r5
            · rw [z, upd_same] at e
              cases e
            · rw [upd_ne z] at e
              exact v6 b e
          refine ⟨m, by omega, TT ++ [(x'.1, (i : Int))], us ++ [t], ts4, _, .int y.1, _, rfl, G7, I7, k7, v7, .inl ⟨i + 1, y, rfl, by omega, hM', ?_, ?_⟩⟩
          · rw [List.length_append, hT]
            rfl
          · rw [hco, List.append_assoc]
            rfl
      · refine ⟨_, rfl, rfl, _, rfl, ifNo (by show (!decide (V.non = V.non)) = false; simp) ?_⟩
        exact hX _ _ ⟨us, ts', some .non, y5, rfl, G3, I3, k3, v3⟩
    · obtain ⟨us, ts', y4, y5, rfl, G3, I3, k3, v3⟩ := hE
      exact ⟨_, rfl, q1 _ _ _ _ I3 G3 k3 v3⟩
end
end El
namespace El
open PySem PySem.Spec PyProof.Rows L2
/-! ### the deck of draws -/
structure Deck (H : Hp) (t g : Addr) (n : Nat) : Prop where
  ne : t ≠ g
  ex : ∃ (gs : List Int) (c d : Int), H t = some (.lst [.ref g, .int c, .int d]) ∧ H g = some (.lst (gs.map V.int)) ∧ (∀ x ∈ gs, 0 ≤ x) ∧ gs.length ≤ 63 ∧ 0 ≤ c ∧ c < 2305843009213693951 ∧ 0 ≤ d ∧ d ≤ n
/-- what is no part of the deck -/
def Off (t g : Addr) (b : Addr) : Prop := b ≠ t ∧ b ≠ g
theorem Deck.same {H H' : Hp} {t g : Addr} {n : Nat} (h : Deck H t g n) (k : Same H H') : Deck H' t g n := by
  obtain ⟨gs, c, d, h1, h2, h3⟩ := h.ex
  exact ⟨h.ne, gs, c, d, k _ _ h1, k _ _ h2, h3⟩
theorem Deck.keep {H H' : Hp} {t g : Addr} {n : Nat} {B : Addr → Prop} (h : Deck H t g n) (k : Kp B H H') (bt : B t) (bg : B g) : Deck H' t g n := by
  obtain ⟨gs, c, d, h1, h2, h3⟩ := h.ex
  exact ⟨h.ne, gs, c, d, k _ _ bt h1, k _ _ bg h2, h3⟩
theorem Deck.more {H : Hp} {t g : Addr} {n m : Nat} (h : Deck H t g n) (k : n ≤ m) : Deck H t g m := by
  obtain ⟨gs, c, d, h1, h2, h3, h4, h5, h6, h7, h8⟩ := h.ex
  exact ⟨h.ne, gs, c, d, h1, h2, h3, h4, h5, h6, h7, by omega⟩
theorem Deck.off {H : Hp} {t g : Addr} {n : Nat} (h : Deck H t g n) {p : Addr} (e : H p = none) : Off t g p := by
  obtain ⟨gs, c, d, h1, h2, _⟩ := h.ex
  exact ⟨no_of h1 e, no_of h2 e⟩
theorem Deck.mut {H : Hp} {t g : Addr} {n : Nat} (h : Deck H t g n) {p : Addr} {o : HO} (k : Off t g p) : Deck (upd H p o) t g n := by
  obtain ⟨gs, c, d, h1, h2, h3⟩ := h.ex
  exact ⟨h.ne, gs, c, d, by rw [upd_ne k.1.symm]; exact h1, by rw [upd_ne k.2.symm]; exact h2, h3⟩
theorem Kp.off {H H' : Hp} {t g p : Addr} {o : HO} (e : Kp (Off t g) H H') (h : p = t ∨ p = g) : Kp (Off t g) H (upd H' p o) := e.mut fun z => by
  rcases h with rfl | rfl
  · exact z.1 rfl
  · exact z.2 rfl
end El
namespace El
open PySem PySem.Spec PyProof.Rows L2
section
variable {P : Program} {w : World} {K : PySem.W.Frag} {mg : Str → Option Value} {base : Heap}
abbrev s__law_deck : Stmt := topS 10
abbrev N__law_deck : List Str := ["script", "great", "fold", "cell"]
abbrev P__law_deck : List Str := ["script"]
theorem sc__law_deck : FnScope N__law_deck P__law_deck (defScope s__law_deck) := ⟨rfl, rfl, rfl, by decide +kernel, rfl, by decide +kernel, by decide +kernel⟩
def sp__law_deck (K : PySem.W.Frag) : Sp := fun vs H Q _ => ∃ (a : Addr) (ns : List Int), vs = [.ref a] ∧ SqL K H a (ns.map V.int) ∧ ns.length ≤ 63 ∧
  ∀ H' t g, Same H H' → H t = none → H g = none → Deck H' t g 0 → Q (.ref t) H'
theorem ok__law_deck (A : At K mg "_law_deck" P__law_deck s__law_deck) (B : Bi mg) : Df P w K mg base 1 "_law_deck" P__law_deck s__law_deck (sp__law_deck K) := by
  refine A.df fun f fd F => F.ok sc__law_deck (fun vs H Q E h => ?_) (fun cdv AA outer s H vs Q E hr h => ?_)
  · obtain ⟨a, _, rfl, _⟩ := h
    rfl
  · obtain ⟨a, ns, rfl, hS, hl, q⟩ := h
    have nd := sc__law_deck.nd
    refine ⟨_, (pss_cons (ps_set (i := 1) nd rfl (.inl rfl) (pe_lst pa_nil))
    (pss_cons (ps_set (i := 2) nd rfl (.inl rfl) pe_int)
    (pss_cons (ps_for PassesOwn.never rfl (pi_list (pv 0)) (pg_name (i := 3) nd rfl (.inl rfl)) (pss_cons (ps_set (i := 2) nd rfl (.inl rfl) (pe_op op_mod (pe_op op_add (pe_op op_mul (pv 2) pe_int) (pv 3)) pe_int)) (pss_one (ps_if (pt_cmpR op_ge (pe_callB call_abs (by rfl) B.abs (by decide +kernel) (pa_cons (pv 3) pa_nil)) (pe_op op_pow pe_int pe_int) (nomark _)) (pss_one (ps_expr (pe_bm PySem.F.plainAttrs_list PySem.F.slot_list_insert PySem.F.type_list_insert mt_insert (pv 1) (pa_cons pe_int (pa_cons (pe_op op_sub (pe_callB call_abs (by rfl) B.abs (by decide +kernel) (pa_cons (pv 3) pa_nil)) (pe_op op_pow pe_int pe_int)) pa_nil))))) pss_nil))))
    (pss_one (ps_ret (pe_lst (pa_cons (pv 1) (pa_cons (pv 2) (pa_cons pe_int pa_nil))))))))), ?_⟩
    refine ⟨Nat.zero_le _, fun g ng => ?_⟩
    refine ⟨.ref a, rfl, a, rfl, ⟨_, (same_new ng).seq hS⟩, ?_⟩
    refine for_it (walk_list (xs := ns.map V.int)) (fun i σ H2 => ∃ (c : Int) (gs : List Int) (y3 : Option V), σ = [some (.ref a), some (.ref g), some (.int c), y3] ∧ Same H H2 ∧ H2 g = some (.lst (gs.map V.int)) ∧ (∀ x ∈ gs, 0 ≤ x) ∧ gs.length ≤ i ∧ 0 ≤ c ∧ c < 2305843009213693951)
      ⟨11, [], none, rfl, same_new ng, upd_same, fun x h => absurd h (by simp), Nat.le_refl _, by decide, by decide⟩ (fun i σ H2 _ hW => ?_) (fun i x σ H2 H3 hi hW hY => ?_) (fun σ H2 hW => ?_)
    · obtain ⟨_, _, _, _, sm, _⟩ := hW
      exact sm.seq hS
    · obtain ⟨c, gs, y3, rfl, sm, eg, hp, hgl, c0, c1⟩ := hW
      obtain ⟨rfl, hx⟩ := hY
      obtain ⟨n, hx', rfl⟩ := ints_at hx
      have hil : i < 63 := by
        rw [List.length_map] at hi
        omega
      refine ⟨.int c, rfl, _, _, rfl, rfl, .inl ⟨by omega, by omega⟩, .int n, rfl, _, _, rfl, rfl, _, _, rfl, rfl, (by show (0 : Int) < 2305843009213693951; decide), ?_⟩
      have f0 : 0 ≤ (c * 1000003 + n) % 2305843009213693951 := Int.emod_nonneg _ (by decide)
      have f1 : (c * 1000003 + n) % 2305843009213693951 < 2305843009213693951 := Int.emod_lt_of_pos (c * 1000003 + n) (by decide)
      refine ⟨.int n, rfl, n, rfl, _, _, rfl, rfl, ⟨by decide, by decide, by decide⟩, _, _, rfl, rfl, _, rfl, ite2 (fun e => ?_) (fun e => ?_)⟩
      · have e := of_decide_eq_true e
        refine ⟨.ref g, rfl, .inl ⟨rfl, _, SqL.of eg⟩, .int n, rfl, n, rfl, _, _, rfl, rfl, ⟨by decide, by decide, by decide⟩, _, _, rfl, rfl, g, _, 0, _, rfl, rfl, eg, ils (by rw [List.length_map]; omega), by decide, by decide, ?_⟩
        refine ⟨_, ((if n < 0 then -n else n) - 10 ^ (18 : Int).toNat) :: gs, _, rfl, Same.mut sm ng, upd_same, fun x hx => ?_, by rw [List.length_cons]; omega, f0, f1⟩
        rcases List.mem_cons.mp hx with rfl | hx
        · have e' : (10 : Int) ^ (18 : Int).toNat ≤ (if n < 0 then -n else n) := e
          omega
        · exact hp x hx
      · exact ⟨_, gs, _, rfl, sm, eg, hp, Nat.le_succ_of_le hgl, f0, f1⟩
    · obtain ⟨c, gs, y3, rfl, sm, eg, hp, hgl, c0, c1⟩ := hW
      rw [List.length_map] at hgl
      refine ⟨.ref g, rfl, .int c, rfl, (by show 3 ≤ sizeLine; decide), fun t nt => ?_⟩
      have ntg : g ≠ t := ne_of_none eg nt
      exact q _ t g (sm.trans (same_new nt)) (sm.free nt) ng ⟨ntg.symm, gs, c, 0, upd_same, by rw [upd_ne ntg]; exact eg, hp, by omega, c0, c1, by decide, by decide⟩
end
end El
namespace El
open PySem PySem.Spec PyProof.Rows L2
section
variable {P : Program} {w : World} {K : PySem.W.Frag} {mg : Str → Option Value} {base : Heap}
abbrev s__law_take : Stmt := topS 11
abbrev N__law_take : List Str := ["deck", "many", "drawn", "turn", "mixed"]
abbrev P__law_take : List Str := ["deck", "many"]
theorem sc__law_take : FnScope N__law_take P__law_take (defScope s__law_take) := ⟨rfl, rfl, rfl, by decide +kernel, rfl, by decide +kernel, by decide +kernel⟩
def sp__law_take : Sp := fun vs H Q _ => ∃ (t g : Addr) (n : Nat) (m : Int), vs = [.ref t, .int m] ∧ Deck H t g n ∧ n ≤ 1000000000 ∧ 0 < m ∧ m < 2 ^ 200 ∧
  ∀ H' r, Kp (Off t g) H H' → Deck H' t g (n + 1) → 0 ≤ r → r < m → Q (.int r) H'
theorem ixN_last (n : Nat) : ixN (n + 1) (-1) = some n := by
  unfold ixN
  rw [if_neg (by decide), if_pos (by omega)]
  congr 1
  omega
theorem last_of (gs : List Int) : gs = [] ∨ ∃ r y, gs = r ++ [y] := by
  rcases List.eq_nil_or_concat gs with h | ⟨r, y, h⟩
  · exact .inl h
  · exact .inr ⟨r, y, by rw [h, List.concat_eq_append]⟩
theorem ok__law_take (A : At K mg "_law_take" P__law_take s__law_take) (B : Bi mg) : Df P w K mg base 1 "_law_take" P__law_take s__law_take sp__law_take := by
  refine A.df fun f fd F => F.ok sc__law_take (fun vs H Q E h => ?_) (fun cdv AA outer s H vs Q E hr h => ?_)
  · obtain ⟨_, _, _, _, rfl, _⟩ := h
    rfl
  · obtain ⟨t, g, n, m, rfl, hT, hn, m0, m1, q⟩ := h
    have nd := sc__law_take.nd
    refine ⟨_, (pss_cons (ps_while PassesOwn.never (PW.pt (pw_and (pt_cmpR (op_neD hr.units) (pe_ix ix_list (pv 0) pe_int (fun _ _ => rfl)) (pe_lst pa_nil) (nomark _)) (pw_and1 (pt_cmpR op_lt (pe_ix ix_list (pe_ix ix_list (pv 0) pe_int (fun _ _ => rfl)) (pe_un un_neg pe_int) (fun _ _ => rfl)) pe_int (nomark _))))) (pss_one (ps_expr (pe_bm0 PySem.F.plainAttrs_list PySem.F.slot_list_pop PySem.F.type_list_pop mt_pop (pe_ix ix_list (pv 0) pe_int (fun _ _ => rfl))))))
    (pss_cons (ps_if (pt_cmpR (op_neD hr.units) (pe_ix ix_list (pv 0) pe_int (fun _ _ => rfl)) (pe_lst pa_nil) (nomark _)) (pss_cons (ps_set (i := 2) nd rfl (.inl rfl) (pe_op op_mod (pe_ix ix_list (pe_ix ix_list (pv 0) pe_int (fun _ _ => rfl)) (pe_un un_neg pe_int) (fun _ _ => rfl)) (pv 1))) (pss_cons (ps_asg (pe_op op_fdivW (pe_ix ix_list (pe_ix ix_list (pv 0) pe_int (fun _ _ => rfl)) (pe_un un_neg pe_int) (fun _ _ => rfl)) (pv 1)) (pg_sub (pe_ix ix_list (pv 0) pe_int (fun _ _ => rfl)) (pe_un un_neg pe_int) set_list)) (pss_one (ps_ret (pv 2))))) pss_nil)
    (pss_cons (ps_asg (pe_op op_add (pe_ix ix_list (pv 0) pe_int (fun _ _ => rfl)) pe_int) (pg_sub (pv 0) pe_int set_list))
    (pss_cons (ps_set (i := 3) nd rfl (.inl rfl) (pe_ix ix_list (pv 0) pe_int (fun _ _ => rfl)))
    (pss_cons (ps_set (i := 4) nd rfl (.inl rfl) (pe_op op_add (pe_op op_mul (pe_op op_add (pe_ix ix_list (pv 0) pe_int (fun _ _ => rfl)) pe_int) (pe_op op_pow (pe_op op_add (pv 3) pe_int) pe_int)) (pe_op op_mul pe_int (pv 3))))
    (pss_one (ps_ret (pe_op op_mod (pe_op op_fdivW (pe_op op_mod (pe_op op_pow (pe_op op_mod (pv 4) pe_int) pe_int) pe_int) pe_int) (pv 1))))))))), ?_⟩
    have ne := hT.ne
    obtain ⟨gs0, c0, d0, i1, i2, i3, i4, i6, i7, i8, i9⟩ := hT.ex
    refine seq_to (fun σ H2 => σ = [some (.ref t), some (.int m), none, none, none] ∧ Kp (Off t g) H H2 ∧ Deck H2 t g n) (fun X hX => ?_) (fun σ H2 hE => ?_)
    · refine while_to (fun k σ H2 => σ = [some (.ref t), some (.int m), none, none, none] ∧ Kp (Off t g) H H2 ∧ ∃ (gs : List Int) (c d : Int), H2 t = some (.lst [.ref g, .int c, .int d]) ∧ H2 g = some (.lst (gs.map V.int)) ∧ (∀ x ∈ gs, 0 ≤ x) ∧ gs.length ≤ 63 ∧ 0 ≤ c ∧ c < 2305843009213693951 ∧ 0 ≤ d ∧ d ≤ n ∧ k = gs.length)
        (fun σ H2 => σ = [some (.ref t), some (.int m), none, none, none] ∧ Kp (Off t g) H H2 ∧ Deck H2 t g n) ⟨gs0.length, rfl, Kp.refl, gs0, c0, d0, i1, i2, i3, i4, i6, i7, i8, i9, rfl⟩ hX (fun X hX k σ H2 hW => ?_)
      obtain ⟨rfl, kp, gs, c, d, j1, j2, j3, j4, j6, j7, j8, j9, rfl⟩ := hW
      refine ⟨.ref t, rfl, t, _, 0, .ref g, rfl, rfl, SqL.of j1, atI_nat (j := 0) rfl, Nat.zero_le _, fun u nu => ?_⟩
      have s1 : Same H2 (upd H2 u (.lst [])) := same_new nu
      refine ⟨dInts gs, dInts [], Dp.ints (s1 _ _ j2), Dp.ints upd_same, (Oks.ints _).shaped, (Oks.ints _).shaped, _, rfl, ?_⟩
      rw [eqv_nil]
      rcases last_of gs with rfl | ⟨r, y, rfl⟩
      · exact iteF (iteF (hX _ _ ⟨rfl, kp.trans (.of s1), ne, [], c, d, s1 _ _ j1, s1 _ _ j2, j3, j4, j6, j7, j8, j9⟩))
      · have en : (r ++ [y]).isEmpty = false := by
          cases r <;> rfl
        rw [en]
        have j2' : (upd H2 u (.lst [])) g = some (.lst (r.map V.int ++ [.int y])) := by
          rw [s1 _ _ j2, List.map_append]
          rfl
        refine ifYes rfl ⟨.ref t, rfl, t, _, 0, .ref g, rfl, rfl, SqL.of (s1 _ _ j1), atI_nat (j := 0) rfl, _, rfl, g, _, -1, .int y, rfl, rfl, SqL.of j2', atI_last _ _, _, _, rfl, rfl, _, rfl, ?_⟩
        by_cases hy : y < 2
        · rw [decide_eq_true hy]
          refine ifYes rfl ⟨fun σ' H' => σ' = [some (.ref t), some (.int m), none, none, none] ∧ Kp (Off t g) H H' ∧ ∃ (gs : List Int) (c d : Int), H' t = some (.lst [.ref g, .int c, .int d]) ∧ H' g = some (.lst (gs.map V.int)) ∧ (∀ x ∈ gs, 0 ≤ x) ∧ gs.length ≤ 63 ∧ 0 ≤ c ∧ c < 2305843009213693951 ∧ 0 ≤ d ∧ d ≤ n ∧ r.length = gs.length, fun σ' H' h => ⟨r.length, by rw [List.length_append]; exact Nat.lt_succ_self _, h⟩, ?_⟩
          refine ⟨.ref t, rfl, t, _, 0, .ref g, rfl, rfl, SqL.of (s1 _ _ j1), atI_nat (j := 0) rfl, .inl ⟨rfl, _, SqL.of j2'⟩, g, _, .int y, rfl, rfl, j2', ?_, ?_⟩
          · rw [List.length_append, List.getElem?_append_right (by simp)]
            simp
          · rw [List.dropLast_concat]
            refine ⟨rfl, Kp.off (kp.trans (.of s1)) (.inr rfl), r, c, d, by rw [upd_ne ne]; exact s1 _ _ j1, upd_same, fun x m => j3 x (by simp [m]), ?_, j6, j7, j8, j9, rfl⟩
            rw [List.length_append] at j4
            exact Nat.le_of_succ_le j4
        · rw [decide_eq_false hy]
          exact ifNo rfl (hX _ _ ⟨rfl, kp.trans (.of s1), ne, r ++ [y], c, d, s1 _ _ j1, s1 _ _ j2, j3, j4, j6, j7, j8, j9⟩)
    · obtain ⟨rfl, kp, hT2⟩ := hE
      obtain ⟨gs, c, d, j1, j2, j3, j4, j6, j7, j8, j9⟩ := hT2.ex
      have g1 : ∀ y : Int, CDivW y m := fun y => ⟨m0, Nat.lt_trans (log_lt m0 m1) (by decide)⟩
      refine ⟨.ref t, rfl, t, _, 0, .ref g, rfl, rfl, SqL.of j1, atI_nat (j := 0) rfl, Nat.zero_le _, fun u nu => ?_⟩
      have s1 : Same H2 (upd H2 u (.lst [])) := same_new nu
      refine ⟨dInts gs, dInts [], Dp.ints (s1 _ _ j2), Dp.ints upd_same, (Oks.ints _).shaped, (Oks.ints _).shaped, _, rfl, ?_⟩
      rw [eqv_nil]
      have kp1 := kp.trans (Kp.of (B := Off t g) s1)
      have e1 := s1 _ _ j1
      have e2 := s1 _ _ j2
      revert kp1 e1 e2
      generalize upd H2 u (.lst []) = H3
      intro kp1 e1 e2
      rcases last_of gs with rfl | ⟨r, y, rfl⟩
      · refine iteF ?_
        -- deck[2] = deck[2] + 1
        refine ⟨.ref t, rfl, t, _, 2, .int d, rfl, rfl, SqL.of e1, atI_nat (j := 2) rfl, _, _, rfl, rfl, ?_⟩
        refine ⟨.ref t, rfl, t, _, 2, 2, rfl, rfl, e1, rfl, ?_⟩
        have e4 : upd H3 t (.lst ([V.ref g, .int c, .int d].set 2 (.int (d + 1)))) t = some (.lst [.ref g, .int c, .int (d + 1)]) := by rw [upd_same]; rfl
        have hT3 : Deck (upd H3 t (.lst ([V.ref g, .int c, .int d].set 2 (.int (d + 1))))) t g (n + 1) := ⟨ne, [], c, d + 1, e4, by rw [upd_ne ne.symm]; exact e2, j3, j4, j6, j7, by omega, by omega⟩
        have k3 : Kp (Off t g) H (upd H3 t (.lst ([V.ref g, .int c, .int d].set 2 (.int (d + 1))))) := Kp.off kp1 (.inl rfl)
        revert e4 hT3 k3
        generalize upd H3 t (.lst ([V.ref g, .int c, .int d].set 2 (.int (d + 1)))) = H4
        intro e4 hT3 k3
        refine ⟨.ref t, rfl, t, _, 2, .int (d + 1), rfl, rfl, SqL.of e4, atI_nat (j := 2) rfl, ?_⟩
        refine ⟨.ref t, rfl, t, _, 1, .int c, rfl, rfl, SqL.of e4, atI_nat (j := 1) rfl, _, _, rfl, rfl, _, rfl, _, _, rfl, rfl, _, _, rfl, rfl, ⟨by decide, by decide, ?_⟩, _, _, rfl, rfl, .inl ⟨by omega, by omega⟩, _, rfl, _, _, rfl, rfl, .inl ⟨by decide, by decide⟩, _, _, rfl, rfl, ?_⟩
        · show (d + 1 + 5).natAbs < 2 ^ 64
          omega
        · refine ⟨_, rfl, _, _, rfl, rfl, (by show (0 : Int) < 2305843009213693951; decide), _, _, rfl, rfl, ⟨by decide, by decide, ?_⟩, _, _, rfl, rfl, (by show (0 : Int) < 1000000007; decide), _, _, rfl, rfl, ⟨by decide, by decide⟩, .int m, rfl, _, _, rfl, rfl, m0, ?_⟩
          · have f0 := Int.emod_nonneg ((c + 40503) * (d + 1 + 5) ^ (3 : Int).toNat + 69621 * (d + 1)) (show (2305843009213693951 : Int) ≠ 0 by decide)
            have f1 := Int.emod_lt_of_pos ((c + 40503) * (d + 1 + 5) ^ (3 : Int).toNat + 69621 * (d + 1)) (show (0 : Int) < 2305843009213693951 by decide)
            show (((c + 40503) * (d + 1 + 5) ^ (3 : Int).toNat + 69621 * (d + 1)) % 2305843009213693951).natAbs < 2 ^ 64
            omega
          · exact q _ _ k3 hT3 (Int.emod_nonneg _ (by omega)) (Int.emod_lt_of_pos _ m0)
      · have en : (r ++ [y]).isEmpty = false := by
          cases r <;> rfl
        rw [en]
        rw [List.map_append] at e2
        refine ifYes rfl ?_
        refine ⟨.ref t, rfl, t, _, 0, .ref g, rfl, rfl, SqL.of e1, atI_nat (j := 0) rfl, _, rfl, g, _, -1, .int y, rfl, rfl, SqL.of e2, atI_last _ _, .int m, rfl, _, _, rfl, rfl, m0, ?_⟩
        refine ⟨.ref t, rfl, t, _, 0, .ref g, rfl, rfl, SqL.of e1, atI_nat (j := 0) rfl, _, rfl, g, _, -1, .int y, rfl, rfl, SqL.of e2, atI_last _ _, .int m, rfl, _, _, rfl, rfl, g1 _, ?_⟩
        refine ⟨.ref t, rfl, t, _, 0, .ref g, rfl, rfl, SqL.of e1, atI_nat (j := 0) rfl, _, rfl, g, _, -1, r.length, rfl, rfl, e2, ?_, ?_⟩
        · rw [List.length_append, List.length_map]
          exact ixN_last _
        · have es : (r.map V.int ++ [y].map V.int).set r.length (V.int (y / m)) = (r ++ [y / m]).map V.int := by
            rw [List.set_append_right _ _ (by rw [List.length_map]; exact Nat.le_refl _), List.length_map, Nat.sub_self, List.map_append]
            rfl
          rw [es]
          refine ⟨_, rfl, q _ _ (Kp.off kp1 (.inr rfl)) ⟨ne, r ++ [y / m], c, d, by rw [upd_ne ne]; exact e1, upd_same, fun x mx => ?_, ?_, j6, j7, j8, by omega⟩ (Int.emod_nonneg _ (by omega)) (Int.emod_lt_of_pos _ m0)⟩
          · rcases List.mem_append.mp mx with mx | mx
            · exact j3 x (List.mem_append_left _ mx)
            · rw [List.mem_singleton.mp mx]
              exact Int.ediv_nonneg (j3 y (by simp)) (by omega)
          · rw [List.length_append] at j4 ⊢
            exact j4
end
end El
namespace El
open PySem PySem.Spec PyProof.Rows L2
section
variable {P : Program} {w : World} {K : PySem.W.Frag} {mg : Str → Option Value} {base : Heap}
abbrev s__law_old : Stmt := topS 12
abbrev N__law_old : List Str := ["deck", "many", "kind", "left", "spot", "turn"]
abbrev P__law_old : List Str := ["deck", "many"]
theorem sc__law_old : FnScope N__law_old P__law_old (defScope s__law_old) := ⟨rfl, rfl, rfl, by decide +kernel, rfl, by decide +kernel, by decide +kernel⟩
def sp__law_old : Sp := fun vs H Q _ => ∃ (t g : Addr) (n many : Nat), vs = [.ref t, .int (many : Int)] ∧ Deck H t g n ∧ many ≤ 60 ∧ n ≤ 900000000 ∧
  ∀ (H' : Hp) (o : Addr) (ns : List Int), Kp (Off t g) H H' → Deck H' t g (n + 100) → H o = none → H' o = some (.lst (ns.map V.int)) → ns.Nodup → ns.length = many → (∀ z ∈ ns, z < 500000000000000000000000000000) → Q (.ref o) H'
/-- the age at a spot -/
def spotAt (kd m k : Int) : Int := if kd = 0 then k else if kd = 1 then k - m / 2 else if kd = 2 then 3 * k - 50 else (k - m / 2) * 10 ^ Int.toNat 28
theorem spotAt_inj {kd m i j : Int} (h : spotAt kd m i = spotAt kd m j) : i = j := by
  have e : (10 : Int) ^ Int.toNat 28 = 10000000000000000000000000000 := by decide
  unfold spotAt at h
  rw [e] at h
  split at h
  · exact h
  · split at h
    · omega
    · split at h
      · omega
      · omega
theorem spots_nodup (kd m : Int) (n : Nat) : ((List.range n).map fun k : Nat => spotAt kd m k).Nodup := by
  rw [List.Nodup, List.pairwise_map]
  refine List.nodup_range.imp fun h z => h ?_
  exact Int.ofNat.inj (spotAt_inj z)
theorem spots_low {kd m : Int} (h0 : 0 ≤ m) (h : m ≤ 60) : ∀ k : Nat, (k : Int) < m → spotAt kd m k < 500000000000000000000000000000 := fun k hk => by
  have e : (10 : Int) ^ Int.toNat 28 = 10000000000000000000000000000 := by decide
  unfold spotAt
  rw [e]
  split
  · omega
  · split
    · omega
    · split
      · omega
      · omega
theorem ok__law_old (A : At K mg "_law_old" P__law_old s__law_old) (B : Bi mg) (D__law_take : Df P w K mg base 1 "_law_take" P__law_take s__law_take sp__law_take) : Df P w K mg base 2 "_law_old" P__law_old s__law_old sp__law_old := by
  refine A.df fun f fd F => F.ok sc__law_old (fun vs H Q E h => ?_) (fun cdv AA outer s H vs Q E hr h => ?_)
  · obtain ⟨_, _, _, _, rfl, _⟩ := h
    rfl
  · obtain ⟨t, g, n, many, rfl, hT, hm, hn, q⟩ := h
    have nd := sc__law_old.nd
    refine ⟨_, (pss_cons (ps_set (i := 2) nd rfl (.inr rfl) (pe_df D__law_take (hr.mono (by decide)) (by rfl) (pa_cons (pv 0) (pa_cons pe_int pa_nil))))
    (pss_cons (ps_set (i := 3) nd rfl (.inr rfl) (pe_lc (own := [("spot", 4)]) (tt := tYes) rfl nd (pi_range1 (by rfl) B.range (pa_cons (pv 1) pa_nil)) (blkOk_by (N := N__law_old) (sc := defScope s__law_old) (by decide +kernel)) (fun _ _ _ _ _ => (pg_name (i := 4) nd rfl (.inl rfl))) (fun _ _ _ _ _ => pts_nil) (fun _ _ _ _ _ => (pe_ix (ixlK K) (pe_lst (pa_cons (pv 4) (pa_cons (pe_op op_sub (pv 4) (pe_op op_fdivW (pv 1) pe_int)) (pa_cons (pe_op op_sub (pe_op op_mul pe_int (pv 4)) pe_int) (pa_cons (pe_op op_mul (pe_op op_sub (pv 4) (pe_op op_fdivW (pv 1) pe_int)) (pe_op op_pow pe_int pe_int)) pa_nil))))) (pv 2) (fun _ _ => rfl)))))
    (pss_one (ps_ret (pe_lc (own := [("turn", 5)]) (tt := tYes) rfl nd (pi_range1 (by rfl) B.range (pa_cons (pv 1) pa_nil)) (blkOk_by (N := N__law_old) (sc := defScope s__law_old) (by decide +kernel)) (fun _ _ _ _ _ => (pg_name (i := 5) nd rfl (.inl rfl))) (fun _ _ _ _ _ => pts_nil) (fun _ _ _ _ _ => (bmK K PySem.F.plainAttrs_list PySem.F.slot_list_pop PySem.F.type_list_pop mt_popAt (pv 3) (pa_cons (pe_df D__law_take (hr.mono (by decide)) (by rfl) (pa_cons (pv 0) (pa_cons (pe_callB (lenK K) (by rfl) B.len PySem.boot_len (pa_cons (pv 3) pa_nil)) pa_nil))) pa_nil)))))))), ?_⟩
    refine ⟨.ref t, rfl, t, g, n, 4, rfl, hT, by omega, by decide, by decide, fun H1 kd k1 T1 a1 b1 => ?_⟩
    refine ⟨_, rfl, _, rfl, by omega, by omega, fun l nl => ?_⟩
    have sl : Same H1 (upd H1 l (.lst [])) := same_new nl
    refine lc_it (walk_range (n := many)) (fun i H2 => Same H1 H2 ∧ H2 l = some (.lst (((List.range i).map fun k : Nat => spotAt kd many k).map V.int)))
      ⟨sl, upd_same⟩ (fun _ _ _ _ => trivial) (fun i x H2 H3 hi hW hY => ?_) (fun H2 hW => ?_)
    · obtain ⟨sm, e1⟩ := hW
      obtain ⟨rfl, rfl⟩ := hY
      have fin : ∀ {H5 : Hp}, Same H3 H5 → Same H1 (upd H5 l (.lst (((List.range i).map fun k : Nat => spotAt kd many k).map V.int ++ [.int (spotAt kd many i)]))) ∧ upd H5 l (.lst (((List.range i).map fun k : Nat => spotAt kd many k).map V.int ++ [.int (spotAt kd many i)])) l = some (.lst (((List.range (i + 1)).map fun k : Nat => spotAt kd many k).map V.int)) := fun s5 => by
        refine ⟨Same.mut (sm.trans s5) nl, ?_⟩
        rw [upd_same, List.range_succ, List.map_append, List.map_append]
        rfl
      refine ⟨rfl, _, rfl, _, rfl, _, rfl, _, _, rfl, rfl, ⟨by decide, by decide⟩, _, _, rfl, rfl, _, rfl, _, _, rfl, rfl, .inl ⟨by decide, by decide⟩, _, _, rfl, rfl, _, rfl, _, rfl, _, _, rfl, rfl, ⟨by decide, by decide⟩, _, _, rfl, rfl, _, _, rfl, rfl, ⟨by decide, by decide, by decide⟩, _, _, rfl, rfl, .inl ⟨?_, ?_⟩, (by show 4 ≤ sizeLine; decide), fun u nu => ?_⟩
      · omega
      · omega
      · refine ⟨_, rfl, u, _, kd, .int (spotAt kd many i), rfl, rfl, SqL.of upd_same, ?_, _, (same_new nu) _ _ e1, ils (by rw [List.length_map, List.length_map, List.length_range]; omega), fin (same_new nu)⟩
        have : kd = 0 ∨ kd = 1 ∨ kd = 2 ∨ kd = 3 := by omega
        show atI [V.int (0 + (i : Int)), .int (0 + (i : Int) - (many : Int) / 2), .int (3 * (0 + (i : Int)) - 50), .int ((0 + (i : Int) - (many : Int) / 2) * 10 ^ Int.toNat 28)] kd = _
        rw [Int.zero_add]
        rcases this with rfl | rfl | rfl | rfl <;> rfl
    · obtain ⟨sm, e1⟩ := hW
      have spn := spots_nodup kd many many
      have spl : ((List.range many).map fun k : Nat => spotAt kd many k).length = many := by rw [List.length_map, List.length_range]
      have spb : ∀ z ∈ (List.range many).map fun k : Nat => spotAt kd many k, z < 500000000000000000000000000000 := fun z m => by
        obtain ⟨k, hk, rfl⟩ := List.mem_map.mp m
        exact spots_low (by omega) (by omega) k (by have := List.mem_range.mp hk; omega)
      revert e1 spn spl spb
      generalize ((List.range many).map fun k : Nat => spotAt kd many k) = L
      intro e1 spn spl spb
      have k2 : Kp (Off t g) H H2 := k1.trans (.of sm)
      have T2 := T1.same sm
      have nl0 : H l = none := k1.none (T1.off nl) nl
      refine ⟨_, rfl, _, rfl, by omega, by omega, fun D nD => ?_⟩
      have nDl : l ≠ D := ne_of_none e1 nD
      have oD : Off t g D := T2.off nD
      have ol : Off t g l := T1.off nl
      have nD0 : H D = none := k2.none oD nD
      refine lc_it (walk_range (n := many)) (fun i H3 => ∃ ls acc : List Int, Kp (Off t g) H H3 ∧ H3 l = some (.lst (ls.map V.int)) ∧ H3 D = some (.lst (acc.map V.int)) ∧ (acc ++ ls).Perm L ∧ ls.length + i = many ∧ acc.length = i ∧ Deck H3 t g (n + 1 + i))
        ⟨L, [], k2.new nD, by rw [upd_ne nDl]; exact e1, upd_same, by simp, spl, rfl, T2.same (same_new nD)⟩ (fun _ _ _ _ => trivial) (fun i x H3 H4 hi hW hY => ?_) (fun H3 hW => ?_)
      · obtain ⟨ls, acc, kp, e1, e2, pm, hlen, ha, hT2⟩ := hW
        obtain ⟨rfl, rfl⟩ := hY
        refine ⟨rfl, .ref l, rfl, .inl ⟨rfl, _, SqL.of e1⟩, .ref t, rfl, .ref l, rfl, l, _, rfl, .inl (SqL.of e1), t, g, n + 1 + i, _, rfl, hT2, by omega, ?_, ?_, fun H5 r k4 T4 r0 r1 => ?_⟩
        · rw [List.length_map]
          omega
        · rw [List.length_map]
          exact Int.lt_of_lt_of_le (show (ls.length : Int) < 1001 by omega) (by decide)
        · rw [List.length_map] at r1
          obtain ⟨k, rfl⟩ : ∃ k : Nat, r = k := ⟨r.toNat, by omega⟩
          have hk : k < ls.length := by omega
          obtain ⟨y, ey⟩ := at_some hk
          have e1' := k4 _ _ ol e1
          have e2' := k4 _ _ oD e2
          refine ⟨l, _, _, k, .int y, rfl, rfl, e1', ?_, ?_, seq_ix (by rw [List.length_map]; exact hk), ?_, _, by rw [upd_ne nDl.symm]; exact e2', ils (by rw [List.length_map]; omega), ls.eraseIdx k, acc ++ [y], ?_, ?_, ?_, ?_, ?_, ?_, ?_⟩
          · omega
          · omega
          · rw [List.getElem?_map, ey]
            rfl
          · exact (Kp.mutF (Kp.mutF (kp.trans k4) nl0) nD0)
          · rw [upd_ne nDl, upd_same, map_erase0']
          · rw [upd_same, List.map_append]
            rfl
          · refine List.Perm.trans ?_ pm
            rw [List.append_assoc]
            exact List.Perm.append_left _ (erase_perm ey)
          · rw [List.length_eraseIdx_of_lt hk]
            omega
          · rw [List.length_append, ha]
            rfl
          · exact (T4.mut ol).mut oD
      · obtain ⟨ls, acc, kp, e1, e2, pm, hlen, ha, hT2⟩ := hW
        have : ls = [] := List.eq_nil_of_length_eq_zero (by omega)
        subst this
        rw [List.append_nil] at pm
        exact q H3 D acc kp (hT2.more (by omega)) nD0 e2 (pm.nodup_iff.mpr spn) (by rw [pm.length_eq, spl]) fun z m => spb z (pm.mem_iff.mp m)
end
end El
namespace El
open PySem PySem.Spec PyProof.Rows L2
section
variable {P : Program} {w : World} {K : PySem.W.Frag} {mg : Str → Option Value} {base : Heap}
abbrev s__law_folk : Stmt := topS 13
abbrev N__law_folk : List Str := ["deck", "most", "many", "kind", "ages", "found", "old", "elders", "some", "one"]
abbrev P__law_folk : List Str := ["deck", "most"]
theorem sc__law_folk : FnScope N__law_folk P__law_folk (defScope s__law_folk) := ⟨rfl, rfl, rfl, by decide +kernel, rfl, by decide +kernel, by decide +kernel⟩
def sp__law_folk : Sp := fun vs H Q _ => ∃ (t g : Addr) (n most : Nat), vs = [.ref t, .int (most : Int)] ∧ Deck H t g n ∧ most ≤ 59 ∧ n ≤ 800000000 ∧
  ∀ (H' : Hp) (o : Addr) (ts : List Addr) (gs : List (Int × Int)), Kp (Off t g) H H' → Deck H' t g (n + 600) → GsAt H' (fun b => H b = none) o ts gs → Fit gs → gs.length ≤ most → (∀ z ∈ gs, z.1 < 500000000000000000000000000000) → Q (.ref o) H'
theorem GsAt.newTop' {H H' : Hp} {B : Addr → Prop} {a p : Addr} {ts : List Addr} {gs : List (Int × Int)} (h : GsAt H B a ts gs) (off : ∀ b, (b = a ∨ b ∈ ts) → b ≠ p) (k : Kp (fun b => b ≠ p) H H') : GsAt H' B a ts gs :=
  ((h.reB (B' := fun b => B b ∧ b ≠ p) fun b m hb => ⟨hb, off b m⟩).keep (k.weak fun b z => z.2)).weaken fun b z => z.1
theorem ok__law_folk (A : At K mg "_law_folk" P__law_folk s__law_folk) (B : Bi mg) (D__law_take : Df P w K mg base 1 "_law_take" P__law_take s__law_take sp__law_take) (D__law_old : Df P w K mg base 2 "_law_old" P__law_old s__law_old sp__law_old) : Df P w K mg base 3 "_law_folk" P__law_folk s__law_folk sp__law_folk := by
  refine A.df fun f fd F => F.ok sc__law_folk (fun vs H Q E h => ?_) (fun cdv AA outer s H vs Q E hr h => ?_)
  · obtain ⟨_, _, _, _, rfl, _⟩ := h
    rfl
  · obtain ⟨t, g, n, most, rfl, hT, hm, hn, q⟩ := h
    have nd := sc__law_folk.nd
    refine ⟨_, (pss_cons (ps_par (i := 2) (j := 3) (by rfl) nd rfl rfl (by decide) rfl rfl (pa_cons (pe_df D__law_take (hr.mono (by decide)) (by rfl) (pa_cons (pv 0) (pa_cons (pe_op op_add (pv 1) pe_int) pa_nil))) (pa_cons (pe_df D__law_take (hr.mono (by decide)) (by rfl) (pa_cons (pv 0) (pa_cons pe_int pa_nil))) pa_nil)) (by rfl))
    (pss_cons (ps_set (i := 4) nd rfl (.inl rfl) (pe_df D__law_old (hr.mono (by decide)) (by rfl) (pa_cons (pv 0) (pa_cons (pv 2) pa_nil))))
    (pss_cons (ps_set (i := 5) nd rfl (.inl rfl) (pe_lst pa_nil))
    (pss_cons (ps_for PassesOwn.never rfl (pi_list (pv 4)) (pg_name (i := 6) nd rfl (.inr rfl)) (pss_cons (ps_set (i := 7) nd rfl (.inl rfl) (pe_callB call_len_seq (by rfl) B.len PySem.boot_len (pa_cons (pe_lc (own := [("one", 9)]) rfl nd (pi_list (pv 4)) (blkOk_by (N := N__law_folk) (sc := defScope s__law_folk) (by decide +kernel)) (fun _ _ _ _ _ => (pg_name (i := 9) nd rfl (.inl rfl))) (fun _ _ _ _ _ => (pts_one (pt_cmpR op_gt (pv 9) (pv 6) (nomark _)))) (fun _ _ _ _ _ => (pv 9))) pa_nil))) (pss_cons (ps_set (i := 8) nd rfl (.inl rfl) (pe_lst (pa_cons pe_int (pa_cons (pe_df D__law_take (hr.mono (by decide)) (by rfl) (pa_cons (pv 0) (pa_cons pe_int pa_nil))) (pa_cons (pe_df D__law_take (hr.mono (by decide)) (by rfl) (pa_cons (pv 0) (pa_cons (pe_op op_add (pv 2) pe_int) pa_nil))) (pa_cons (pe_op op_sub (pe_op op_sub (pe_op op_pow pe_int pe_int) pe_int) (pe_df D__law_take (hr.mono (by decide)) (by rfl) (pa_cons (pv 0) (pa_cons pe_int pa_nil)))) (pa_cons (pe_op op_fdivW (pv 7) pe_int) pa_nil))))))) (pss_cons (ps_expr (pe_bm PySem.F.plainAttrs_list PySem.F.slot_list_append PySem.F.type_list_append mt_append (pv 8) (pa_cons (pe_callB (call_max2 rfl) (by rfl) B.max (by decide +kernel) (pa_cons pe_int (pa_cons (pe_op op_sub pe_int (pe_op op_fdivW (pv 7) pe_int)) pa_nil))) pa_nil))) (pss_one (ps_expr (pe_bm PySem.F.plainAttrs_list PySem.F.slot_list_append PySem.F.type_list_append mt_append (pv 5) (pa_cons (pe_tup (pa_cons (pv 6) (pa_cons (pe_ix ix_list (pv 8) (pe_ix ix_list (pe_lst (pa_cons (pv 3) (pa_cons (pe_df D__law_take (hr.mono (by decide)) (by rfl) (pa_cons (pv 0) (pa_cons pe_int pa_nil))) pa_nil))) (pe_callTy call_int1 (by rfl) B.int_ (by decide +kernel) (pa_cons (pe_cmpR op_eq (pe_df D__law_take (hr.mono (by decide)) (by rfl) (pa_cons (pv 0) (pa_cons pe_int pa_nil))) pe_int (nomark _)) pa_nil)) (fun _ _ => rfl)) (fun _ _ => rfl)) pa_nil))) pa_nil))))))))
    (pss_one (ps_ret (pv 5))))))), ?_⟩
    refine ⟨.ref t, rfl, _, rfl, _, _, rfl, rfl, t, g, n, _, rfl, hT, by omega, by omega, ?_, fun H1 r1 k1 T1 a1 b1 => ?_⟩
    · exact Int.lt_of_le_of_lt (show (most : Int) + 1 ≤ 60 by omega) (by decide)
    obtain ⟨many, rfl⟩ : ∃ k : Nat, r1 = k := ⟨r1.toNat, by omega⟩
    have hmany : many ≤ most := by omega
    refine ⟨.ref t, rfl, t, g, n + 1, 6, rfl, T1, by omega, by decide, by decide, fun H2 kd k2 T2 a2 b2 => ?_⟩
    refine ⟨_, _, rfl, ?_⟩
    -- ages
    refine ⟨.ref t, rfl, _, rfl, t, g, n + 2, many, rfl, T2, by omega, by omega, fun H3 o ns k3 T3 no e3 hnd hl hlow => ?_⟩
    have oo : Off t g o := T2.off no
    have kB : Kp (Off t g) H H3 := (k1.trans k2).trans k3
    -- found = []
    refine ⟨Nat.zero_le _, fun D nD => ?_⟩
    have oD : Off t g D := T3.off nD
    have hDo : o ≠ D := ne_of_none e3 nD
    have nD0 : H D = none := kB.none oD nD
    have offD : ∀ z, H z = none → Off t g z := fun z hz => hT.off hz
    have oN : H o = none := (k1.trans k2).none oo no
    refine ⟨.ref o, rfl, o, rfl, ⟨_, SqL.of (by rw [upd_ne hDo]; exact e3)⟩, ?_⟩
    refine for_it (walk_list (xs := ns.map V.int)) (fun i σ H4 => ∃ y6 y7 y8 ts gs, σ = [some (.ref t), some (.int most), some (.int many), some (.int kd), some (.ref o), some (.ref D), y6, y7, y8, none] ∧ Kp (Off t g) H H4 ∧ H4 o = some (.lst (ns.map V.int)) ∧ GsAt H4 (fun b => H b = none) D ts gs ∧ gs.map (·.1) = ns.take i ∧ (∀ g ∈ gs, 0 ≤ g.2) ∧ Deck H4 t g (n + 102 + 6 * i) ∧ o ∉ ts)
      ⟨none, none, none, [], [], rfl, kB.new nD, by rw [upd_ne hDo]; exact e3, ⟨upd_same, nD0, rfl, fun i t g e _ => by simp at e, fun t m => by simp at m⟩, rfl, fun g m => by simp at m, T3.mut oD, by simp⟩ (fun i σ H4 _ hW => ?_) (fun i x σ H4 H5 hi hW hY => ?_) (fun σ H4 hW => ?_)
    · obtain ⟨_, _, _, _, _, _, _, e4, _⟩ := hW
      exact SqL.of e4
    · obtain ⟨y6, y7, y8, ts, gs, rfl, kp, e4, hG, hgs, hpos, T4, hot⟩ := hW
      obtain ⟨rfl, hx⟩ := hY
      obtain ⟨a, ea, rfl⟩ := ints_at hx
      have hi' : i < ns.length := at_lt ea
      have hgl : gs.length = i := by
        have := congrArg List.length hgs
        rw [List.length_map, List.length_take] at this
        omega
      -- elders
      refine ⟨.ref o, rfl, o, rfl, ⟨_, SqL.of e4⟩, fun D1 nD1 => ?_⟩
      refine lc_sel (fun b => decide (a < b)) e4 nD1 (by omega) (fun z H' Q h => ⟨.int z, rfl, .int a, rfl, _, _, rfl, rfl, _, rfl, h⟩) (fun z H' Q h => ⟨.int z, rfl, h⟩) (fun _ => rfl) (fun H6 s6 e6 => ?_)
      refine ⟨D1, _, rfl, .inl (SqL.of e6), ?_⟩
      have el : ((ns.filter fun b => decide (a < b)).map V.int).length ≤ 59 := by
        rw [List.length_map]
        refine Nat.le_trans (List.length_filter_le _ _) ?_
        omega
      revert el
      generalize ((ns.filter fun b => decide (a < b)).map V.int).length = e
      intro el
      have T6 := T4.same s6
      have k6 := kp.trans (Kp.of (B := Off t g) s6)
      have G6 := hG.same s6
      have eo6 := s6 _ _ e4
      -- some
      refine ⟨.ref t, rfl, t, g, n + 102 + 6 * i, 3, rfl, T6, by omega, by decide, by decide, fun H7 r7 k7 T7 a7 b7 => ?_⟩
      refine ⟨.ref t, rfl, _, rfl, _, _, rfl, rfl, t, g, n + 102 + 6 * i + 1, _, rfl, T7, by omega, by omega, ?_, fun H8 r8 k8 T8 a8 b8 => ?_⟩
      · exact Int.lt_of_le_of_lt (show (many : Int) + 1 ≤ 60 by omega) (by decide)
      refine ⟨_, _, rfl, rfl, ⟨by decide, by decide, by decide⟩, _, _, rfl, rfl, .ref t, rfl, t, g, n + 102 + 6 * i + 2, 9, rfl, T8, by omega, by decide, by decide, fun H9 r9 k9 T9 a9 b9 => ?_⟩
      refine ⟨_, _, rfl, rfl, _, rfl, _, _, rfl, rfl, ⟨by decide, by decide⟩, (by show 5 ≤ sizeLine; decide), fun p np => ?_⟩
      dsimp only [gName]
      have k9' := ((k6.trans k7).trans k8).trans k9
      have kpp : Kp (Off t g) H6 H9 := (k7.trans k8).trans k9
      have G9 : GsAt H9 (fun b => H b = none) D ts gs := G6.keep fun z x hz e => kpp z x (offD z hz) e
      have eo9 := kpp _ _ oo eo6
      have op : Off t g p := T9.off np
      have npH : H p = none := k9'.none op np
      have h5 : ∃ xs5 : List V, xs5 = [V.int 0, .int r7, .int r8, .int (10 ^ Int.toNat 30 - 1 - r9), .int ((e : Int) / 2)] := ⟨_, rfl⟩
      obtain ⟨xs5, hxs5⟩ := h5
      have hpos5 : ∀ v ∈ xs5, ∃ z : Int, v = .int z ∧ 0 ≤ z := fun v m => by
        have e30 : (10 : Int) ^ Int.toNat 30 = 1000000000000000000000000000000 := by decide
        rw [hxs5] at m
        rcases List.mem_cons.mp m with rfl | m
        · exact ⟨_, rfl, by decide⟩
        rcases List.mem_cons.mp m with rfl | m
        · exact ⟨_, rfl, a7⟩
        rcases List.mem_cons.mp m with rfl | m
        · exact ⟨_, rfl, a8⟩
        rcases List.mem_cons.mp m with rfl | m
        · exact ⟨_, rfl, by omega⟩
        rw [List.mem_singleton.mp m]
        exact ⟨_, rfl, by omega⟩
      have l5 : xs5.length = 5 := by
        rw [hxs5]
        rfl
      have s9 : Same H9 (upd H9 p (.lst xs5)) := same_new np
      have ep : upd H9 p (.lst xs5) p = some (.lst xs5) := upd_same
      have Ta := T9.mut (o := .lst xs5) op
      rw [← hxs5]
      revert s9 ep Ta
      generalize upd H9 p (.lst xs5) = Ha
      intro s9 ep Ta
      -- some.append(max(0, 3 - elders // 3))
      refine ⟨.ref p, rfl, .inl ⟨rfl, _, SqL.of ep⟩, _, rfl, _, _, rfl, rfl, ⟨by decide, by decide⟩, _, _, rfl, rfl, _, _, rfl, p, _, _, rfl, rfl, ep, ils (by rw [l5]; decide), ?_⟩
      have hl6 : ∃ m6 : Int, m6 = (if 3 - (e : Int) / 3 > 0 then 3 - (e : Int) / 3 else 0) ∧ 0 ≤ m6 := ⟨_, rfl, by split <;> omega⟩
      obtain ⟨m6, hm6, hm60⟩ := hl6
      rw [← hm6]
      have hpos6 : ∀ v ∈ xs5 ++ [V.int m6], ∃ z : Int, v = .int z ∧ 0 ≤ z := fun v m => by
        rcases List.mem_append.mp m with m | m
        · exact hpos5 v m
        · rw [List.mem_singleton.mp m]
          exact ⟨_, rfl, hm60⟩
      have l6 : (xs5 ++ [V.int m6]).length = 6 := by
        rw [List.length_append, l5]
        rfl
      revert hpos6 l6
      generalize xs5 ++ [V.int m6] = xs6
      intro hpos6 l6
      have Kb : Kp (Off t g) H9 (upd Ha p (.lst xs6)) := (Kp.of s9).mutF np
      have KbD : Kp (fun b => b ≠ p) Ha (upd Ha p (.lst xs6)) := Kp.mut Kp.refl fun z => z rfl
      have Tb := Ta.mut (o := .lst xs6) op
      have epb : upd Ha p (.lst xs6) p = some (.lst xs6) := upd_same
      have Gb : GsAt (upd Ha p (.lst xs6)) (fun b => H b = none) D ts gs := G9.newTop' (fun b m => by
        obtain ⟨v, ev⟩ := G9.there b m
        exact fun z => by
          rw [z, np] at ev
          cases ev) (fun b u hb e => by
          rw [upd_ne hb]
          exact s9 _ _ e)
      have eob : upd Ha p (.lst xs6) o = some (.lst (ns.map V.int)) := by
        rw [upd_ne (ne_of_none eo9 np)]
        exact s9 _ _ eo9
      revert Kb Tb epb Gb eob
      generalize upd Ha p (.lst xs6) = Hb
      intro Kb Tb epb Gb eob
      -- found.append((old, some[[kind, _law_take(deck, 6)][int(_law_take(deck, 3) == 0)]]))
      refine ⟨.ref D, rfl, .inl ⟨rfl, _, Gb.seq⟩, _, rfl, .ref p, rfl, _, rfl, .ref t, rfl, t, g, n + 102 + 6 * i + 3, 6, rfl, Tb, by omega, by decide, by decide, fun Hc rc kc Tc ac bc => ?_⟩
      refine ⟨(by show 2 ≤ sizeLine; decide), fun p2 np2 => ?_⟩
      have op2 : Off t g p2 := Tc.off np2
      refine ⟨.ref t, rfl, t, g, n + 102 + 6 * i + 4, 3, rfl, Tc.mut op2, by omega, by decide, by decide, fun Hd rd kd' Td ad bd => ?_⟩
      have kbd : Kp (Off t g) Hb Hd := (kc.trans (Kp.of (same_new np2))).trans kd'
      have pick : ∀ j : Int, 0 ≤ j → j < 2 → ∃ z z' : Int, atI [V.int kd, V.int rc] j = some (.int z) ∧ atI xs6 z = some (.int z') ∧ 0 ≤ z' := fun j j0 j2 => by
        obtain ⟨v, hv, mv⟩ := at_pick (xs := [V.int kd, .int rc]) j0 j2
        have hz : ∃ z : Int, v = .int z ∧ 0 ≤ z ∧ z < 6 := by
          rcases List.mem_cons.mp mv with rfl | mv
          · exact ⟨_, rfl, a2, b2⟩
          · rw [List.mem_singleton.mp mv]
            exact ⟨_, rfl, ac, bc⟩
        obtain ⟨z, rfl, z0, z6⟩ := hz
        obtain ⟨y, hy, my⟩ := at_pick (xs := xs6) z0 (by rw [l6]; exact z6)
        obtain ⟨z', rfl, hz'⟩ := hpos6 y my
        exact ⟨z, z', hv, hy, hz'⟩
      obtain ⟨z, z', hz1, hz2, hz3⟩ := pick (if decide (V.int rd = V.int 0) then 1 else 0) (by split <;> decide) (by split <;> decide)
      refine ⟨rfl, .inr ⟨_, rfl, p2, _, _, _, rfl, rfl, SqL.of (kd' _ _ op2 upd_same), hz1, p, _, _, _, rfl, rfl, SqL.of (kbd _ _ op epb), hz2, (by show 2 ≤ sizeLine; decide), fun u nu => ?_⟩⟩
      have Kd : Kp (Off t g) H Hd := (k9'.trans Kb).trans kbd
      have ou : Off t g u := Td.off nu
      have nu0 : H u = none := Kd.none ou nu
      have Gd : GsAt Hd (fun b => H b = none) D ts gs := Gb.keep fun z x hz e => kbd z x (offD z hz) e
      have Gu := Gd.same (same_new (o := .tup [.int a, .int z']) nu)
      have hDn : D ∉ ts := fun m => by
        obtain ⟨j, ej⟩ := List.mem_iff_getElem?.mp m
        have hl := at_lt ej
        rw [Gd.len] at hl
        obtain ⟨x, ex⟩ := at_some hl
        have e1 := Gd.at' j D x ej ex
        rw [Gd.top] at e1
        cases e1
      refine ⟨D, _, _, rfl, rfl, Gu.top, ils (by rw [List.length_map, Gd.len]; omega), _, _, _, ts ++ [u], gs ++ [(a, z')], rfl, ?_, ?_, Gu.push hDn (g := (a, z')) upd_same nu0, ?_, ?_, ?_, ?_⟩
      · exact (Kd.new nu).mutF nD0
      · rw [upd_ne hDo, upd_ne (ne_of_none (kbd _ _ oo eob) nu)]
        exact kbd _ _ oo eob
      · rw [List.map_append, hgs, take_snoc ea]
        rfl
      · intro x mx
        rcases List.mem_append.mp mx with mx | mx
        · exact hpos x mx
        · rw [List.mem_singleton.mp mx]
          exact hz3
      · exact ((Td.mut ou).mut oD).more (by omega)
      · intro m
        rcases List.mem_append.mp m with m | m
        · exact hot m
        · exact ne_of_none (kbd _ _ oo eob) nu (List.mem_singleton.mp m)
    · obtain ⟨y6, y7, y8, ts, gs, rfl, kp, e4, hG, hgs, hpos, T4, hot⟩ := hW
      rw [List.length_map, List.take_length] at hgs
      refine ⟨_, rfl, q _ D ts gs kp (T4.more ?_) hG ⟨by rw [hgs]; exact hnd, hpos⟩ ?_ fun z m => hlow _ (by rw [← hgs]; exact List.mem_map_of_mem m)⟩
      · rw [List.length_map]
        omega
      · have := congrArg List.length hgs
        rw [List.length_map] at this
        omega
end
end El
namespace El
open PySem PySem.Spec PyProof.Rows L2
section
variable {P : Program} {w : World} {K : PySem.W.Frag} {mg : Str → Option Value} {base : Heap}
abbrev s_Inn_rooms : Stmt := inClass (topS 8) 5
abbrev N_Inn_rooms : List Str := ["self", "room"]
abbrev P_Inn_rooms : List Str := ["self"]
theorem sc_Inn_rooms : FnScope N_Inn_rooms P_Inn_rooms (defScope s_Inn_rooms) := ⟨rfl, rfl, rfl, by decide +kernel, rfl, by decide +kernel, by decide +kernel⟩
def sp_Inn_rooms (C : Addr) : Sp := fun vs H Q _ => ∃ (B : Addr → Prop) (p d o : Addr) (ts : List Addr) (gs : List (Int × Int)) (rs : List (List Int)), vs = [.ref p] ∧ InnAt C H B p d o ts gs rs ∧ rs.length ≤ 1000 ∧
  ∀ (H' : Hp) (q : Addr) (us : List Addr), Same H H' → RmsAt H' (fun b => H b = none) q us rs → Q (.ref q) H'
theorem ok_Inn_rooms {C : Addr} (A : Ma K C "rooms" "Inn.rooms" P_Inn_rooms s_Inn_rooms) (B : Bi mg) (T : InnT K mg C) : Mf P w K mg base 1 C "rooms" "Inn.rooms" P_Inn_rooms s_Inn_rooms (sp_Inn_rooms C) := by
  refine A.mf fun f fd F => F.ok sc_Inn_rooms (fun vs H Q E h => ?_) (fun cdv AA outer s H vs Q E hr h => ?_)
  · obtain ⟨_, _, _, _, _, _, _, rfl, _⟩ := h
    rfl
  · obtain ⟨BB, p, d, o, ts, gs, rs, rfl, hI, hl, q⟩ := h
    have nd := sc_Inn_rooms.nd
    refine ⟨_, (pss_one (ps_ret (pe_lc (own := [("room", 1)]) (tt := tYes) rfl nd (pi_list (pe_fld (pv 0) rfl)) (blkOk_by (N := N_Inn_rooms) (sc := defScope s_Inn_rooms) (by decide +kernel)) (fun _ _ _ _ _ => (pg_name (i := 1) nd rfl (.inl rfl))) (fun _ _ _ _ _ => pts_nil) (fun _ _ _ _ _ => (pe_callTy (listOfK K) (by rfl) B.list_ (by decide +kernel) (pa_cons (pv 1) pa_nil)))))), ?_⟩
    obtain ⟨dx, hp⟩ := hI.ob
    refine ⟨_, rfl, p, C, dx, _, _, rfl, hp, T.cl, T.nR, iflds_r _ _, o, rfl, ⟨_, hI.rm.seq⟩, fun D nD => ?_⟩
    refine lc_it (walk_list (xs := ts.map V.ref)) (fun k H2 => Same H H2 ∧ ∃ us, RmsAt H2 (fun z => H z = none) D us (rs.take k)) ⟨same_new nD, [], RmsAt.nil upd_same nD⟩ (fun k H2 _ hW => (hI.rm.same hW.1).seq) (fun k x H2 H3 hk hW hY => ?_) (fun H2 hW => ?_)
    · obtain ⟨sm, us, hL⟩ := hW
      obtain ⟨rfl, hx⟩ := hY
      obtain ⟨t, r, rfl, _, er, et⟩ := (hI.rm.same sm).get hx
      refine ⟨rfl, .ref t, rfl, t, _, rfl, .inl (SqL.of et), fun u nu => ?_⟩
      have hL2 := hL.same (same_new (o := .lst (r.map V.int)) nu)
      have nu0 : H u = none := sm.free nu
      have uD : u ≠ D := no_of hL.top nu
      have uus : u ∉ us := fun m => by
        obtain ⟨x, ex⟩ := hL.lives m
        rw [nu] at ex
        cases ex
      have fin := hL2.addN (u := u) (r := r) upd_same nu0 uus uD
      rw [← take_snoc er] at fin
      refine ⟨_, hL2.top, ils ?_, Same.mut (sm.trans (same_new nu)) nD, _, fin⟩
      rw [List.length_map, hL.len, List.length_take]
      omega
    · obtain ⟨sm, us, hL⟩ := hW
      rw [List.length_map, hI.rm.len, List.take_length] at hL
      exact q H2 D us sm hL
end
end El
namespace El
open PySem PySem.Spec PyProof.Rows L2
section
variable {P : Program} {w : World} {K : PySem.W.Frag} {mg : Str → Option Value} {base : Heap}
abbrev s_Inn__check_there : Stmt := inClass (topS 8) 10
abbrev N_Inn__check_there : List Str := ["self", "age"]
abbrev P_Inn__check_there : List Str := ["self", "age"]
theorem sc_Inn__check_there : FnScope N_Inn__check_there P_Inn__check_there (defScope s_Inn__check_there) := ⟨rfl, rfl, rfl, by decide +kernel, rfl, by decide +kernel, by decide +kernel⟩
theorem pks_is {gs : List (Int × Int)} {a : Int} (nd : (gs.map (·.1)).Nodup) (m : a ∈ gs.map (·.1)) : valV (pks gs) (Sum.inl a) = some (.int (pof gs a)) := by
  obtain ⟨g, hg, rfl⟩ := List.mem_map.mp m
  rw [pks_some nd hg, pof_is nd hg]
def sp_Inn__check_there (C : Addr) : Sp := fun vs H Q _ => ∃ (B : Addr → Prop) (p d o : Addr) (ts : List Addr) (gs : List (Int × Int)) (rs : List (List Int)) (a : Int), vs = [.ref p, .int a] ∧ InnAt C H B p d o ts gs rs ∧ (gs.map (·.1)).Nodup ∧ a ∈ gs.map (·.1) ∧ Q .non H
theorem ok_Inn__check_there {C : Addr} (A : Ma K C "_check_there" "Inn._check_there" P_Inn__check_there s_Inn__check_there) (T : InnT K mg C) : Mf P w K mg base 1 C "_check_there" "Inn._check_there" P_Inn__check_there s_Inn__check_there (sp_Inn__check_there C) := by
  refine A.mf fun f fd F => F.ok sc_Inn__check_there (fun vs H Q E h => ?_) (fun cdv AA outer s H vs Q E hr h => ?_)
  · obtain ⟨_, _, _, _, _, _, _, _, rfl, _⟩ := h
    rfl
  · obtain ⟨BB, p, d, o, ts, gs, rs, a, rfl, hI, hnd, ha, q⟩ := h
    have nd := sc_Inn__check_there.nd
    refine ⟨_, (pss_one (ps_if (pt_cmp (pc_dnotin (hu_of hr) (pv 1) (pe_fld (pv 0) rfl))) (pss_one ps_never) pss_nil)), ?_⟩
    obtain ⟨dx, hp⟩ := hI.ob
    refine ⟨_, rfl, _, rfl, p, C, dx, _, _, rfl, hp, T.cl, T.nP, iflds_p _ _, d, _, rfl, DGet.k (k := Sum.inl a) hI.dc, _, rfl, ?_⟩
    rw [pks_is hnd ha]
    exact iteF q
end
end El
namespace El
open PySem PySem.Spec PyProof.Rows L2
section
variable {P : Program} {w : World} {K : PySem.W.Frag} {mg : Str → Option Value} {base : Heap}
abbrev s_Inn_where : Stmt := inClass (topS 8) 6
abbrev N_Inn_where : List Str := ["self", "age", "room"]
abbrev P_Inn_where : List Str := ["self", "age"]
theorem sc_Inn_where : FnScope N_Inn_where P_Inn_where (defScope s_Inn_where) := ⟨rfl, rfl, rfl, by decide +kernel, rfl, by decide +kernel, by decide +kernel⟩
def sp_Inn_where (C : Addr) : Sp := fun vs H Q _ => ∃ (B : Addr → Prop) (p d o : Addr) (ts : List Addr) (gs : List (Int × Int)) (rs : List (List Int)) (a : Int) (m : Nat) (S : List Int), vs = [.ref p, .int a] ∧ InnAt C H B p d o ts gs rs ∧ (gs.map (·.1)).Nodup ∧ a ∈ gs.map (·.1) ∧ rs.length ≤ 1000 ∧
  rs[m]? = some S ∧ a ∈ S ∧ (∀ (j : Nat) (r : List Int), rs[j]? = some r → a ∈ r → j = m) ∧ ∀ H', Same H H' → Q (.int m) H'
theorem ok_Inn_where {C : Addr} (A : Ma K C "where" "Inn.where" P_Inn_where s_Inn_where) (B : Bi mg) (T : InnT K mg C) (M__check_there : Mf P w K mg base 1 C "_check_there" "Inn._check_there" P_Inn__check_there s_Inn__check_there (sp_Inn__check_there C)) :
    Mf P w K mg base 2 C "where" "Inn.where" P_Inn_where s_Inn_where (sp_Inn_where C) := by
  refine A.mf fun f fd F => F.ok sc_Inn_where (fun vs H Q E h => ?_) (fun cdv AA outer s H vs Q E hr h => ?_)
  · obtain ⟨_, _, _, _, _, _, _, _, _, _, rfl, _⟩ := h
    rfl
  · obtain ⟨BB, p, d, o, ts, gs, rs, a, m, S, rfl, hI, hnd, ha, hl, eS, mS, only, q⟩ := h
    have nd := sc_Inn_where.nd
    refine ⟨_, (pss_cons (ps_expr (pe_mf M__check_there T.cl (hr.mono (by decide)) (pv 0) (pa_cons (pv 1) pa_nil)))
    (pss_one (ps_ret (pe_bm PySem.F.plainAttrs_list PySem.F.slot_list_index PySem.F.type_list_index (mtIndexK K) (pe_lc (own := [("room", 2)]) (tt := tYes) rfl nd (pi_list (pe_fld (pv 0) rfl)) (blkOk_by (N := N_Inn_where) (sc := defScope s_Inn_where) (by decide +kernel)) (fun _ _ _ _ _ => (pg_name (i := 2) nd rfl (.inl rfl))) (fun _ _ _ _ _ => pts_nil) (fun _ _ _ _ _ => (pe_cmpR (inK K) (pv 1) (pv 2) (by rfl)))) (pa_cons pe_bl pa_nil))))), ?_⟩
    obtain ⟨dx, hp⟩ := hI.ob
    refine ⟨.ref p, rfl, p, dx, _, rfl, hp, iflds_no _ _ (by decide +kernel) (by decide +kernel), _, rfl, BB, p, d, o, ts, gs, rs, a, rfl, hI, hnd, ha, ?_⟩
    refine ⟨_, rfl, p, C, dx, _, _, rfl, hp, T.cl, T.nR, iflds_r _ _, o, rfl, ⟨_, hI.rm.seq⟩, fun D nD => ?_⟩
    refine lc_it (walk_list (xs := ts.map V.ref)) (fun k H2 => Same H H2 ∧ H2 D = some (.lst ((rs.take k).map fun r => V.bl (decide (a ∈ r))))) ⟨same_new nD, upd_same⟩ (fun k H2 _ hW => (hI.rm.same hW.1).seq) (fun k x H2 H3 hk hW hY => ?_) (fun H2 hW => ?_)
    · obtain ⟨sm, eD⟩ := hW
      obtain ⟨rfl, hx⟩ := hY
      obtain ⟨t, r, rfl, _, er, et⟩ := (hI.rm.same sm).get hx
      refine ⟨rfl, .int a, rfl, .ref t, rfl, t, _, rfl, .inl (SqL.of et), rfl, flat_ints r, _, eD, ils ?_, Same.mut sm nD, ?_⟩
      · rw [List.length_map, List.length_take]
        omega
      · rw [upd_same, take_snoc er, List.map_append]
        show some (HO.lst (_ ++ [V.bl (inV (.int a) (r.map V.int))])) = _
        rw [inV_ints]
        rfl
    · obtain ⟨sm, eD⟩ := hW
      rw [List.length_map, hI.rm.len, List.take_length] at eD
      refine ⟨.inl ⟨rfl, _, SqL.of eD⟩, D, _, .bl true, m, .bl true, rfl, rfl, SqL.of eD, rfl, ?_, ?_, rfl, fun j z hj ez => ?_, q H2 sm⟩
      · rw [List.all_map, List.all_eq_true]
        intro r _
        rfl
      · rw [List.getElem?_map, eS]
        show some (V.bl (decide (a ∈ S))) = _
        rw [decide_eq_true mS]
      · rw [List.getElem?_map] at ez
        cases er : rs[j]? with
        | none =>
          rw [er] at ez
          cases ez
        | some r =>
          rw [er] at ez
          obtain rfl : V.bl (decide (a ∈ r)) = z := Option.some.inj ez
          rw [decide_eq_false fun y => absurd (only j r er y) (by omega)]
          rfl
end
end El
namespace El
open PySem PySem.Spec PyProof.Rows L2
section
variable {P : Program} {w : World} {K : PySem.W.Frag} {mg : Str → Option Value} {base : Heap}
abbrev s_Inn__bears : Stmt := inClass (topS 8) 13
abbrev N_Inn__bears : List Str := ["self", "age", "number", "elders", "other"]
abbrev P_Inn__bears : List Str := ["self", "age", "number"]
theorem sc_Inn__bears : FnScope N_Inn__bears P_Inn__bears (defScope s_Inn__bears) := ⟨rfl, rfl, rfl, by decide +kernel, rfl, by decide +kernel, by decide +kernel⟩
def sp_Inn__bears (C : Addr) : Sp := fun vs H Q _ => ∃ (B : Addr → Prop) (p d o : Addr) (ts : List Addr) (gs : List (Int × Int)) (rs : List (List Int)) (a : Int) (n : Nat) (R : List Int), vs = [.ref p, .int a, .int n] ∧ InnAt C H B p d o ts gs rs ∧ (gs.map (·.1)).Nodup ∧ a ∈ gs.map (·.1) ∧
  rs[n]? = some R ∧ R.length ≤ 1000 ∧ ∀ H', Same H H' → Q (.bl (bearB gs R a)) H'
theorem ok_Inn__bears {C : Addr} (A : Ma K C "_bears" "Inn._bears" P_Inn__bears s_Inn__bears) (B : Bi mg) (T : InnT K mg C) : Mf P w K mg base 1 C "_bears" "Inn._bears" P_Inn__bears s_Inn__bears (sp_Inn__bears C) := by
  refine A.mf fun f fd F => F.ok sc_Inn__bears (fun vs H Q E h => ?_) (fun cdv AA outer s H vs Q E hr h => ?_)
  · obtain ⟨_, _, _, _, _, _, _, _, _, _, rfl, _⟩ := h
    rfl
  · obtain ⟨BB, p, d, o, ts, gs, rs, a, n, R, rfl, hI, hnd, ha, eR, hl, q⟩ := h
    have nd := sc_Inn__bears.nd
    refine ⟨_, (pss_cons (ps_setLc (i := 3) (own := [("other", 4)]) rfl nd rfl rfl (sw_true rfl rfl rfl (by decide +kernel)) (pi_list (pe_ix ix_list (pe_fld (pv 0) rfl) (pv 2) (fun _ _ => rfl))) (blkOk_by (N := N_Inn__bears) (sc := defScope s_Inn__bears) (by decide +kernel)) (fun _ _ _ _ _ => (pg_name (i := 4) nd rfl (.inl rfl))) (fun _ _ _ _ _ => (pts_one (pt_cmpR op_gt (pv 4) (pv 1) (nomark _)))) (fun _ _ _ _ _ => (pv 4)))
    (pss_one (ps_ret (pe_cmpR op_le (pe_callB call_len_seq (by rfl) B.len PySem.boot_len (pa_cons (pv 3) pa_nil)) (pe_dget (hu_of hr) (pe_fld (pv 0) rfl) (pv 1) (fun _ _ => rfl)) (nomark _))))), ?_⟩
    obtain ⟨dx, hp⟩ := hI.ob
    obtain ⟨t, et, hR⟩ := hI.rm.of eR
    have at5 : (ts.map V.ref)[n]? = some (.ref t) := by
      rw [List.getElem?_map, et]
      rfl
    refine ⟨_, rfl, p, C, dx, _, _, rfl, hp, T.cl, T.nR, iflds_r _ _, _, rfl, o, _, _, .ref t, rfl, rfl, SqL.of hI.rm.top, atI_nat (j := n) at5, t, rfl, ⟨_, SqL.of hR⟩, fun D nD => ?_⟩
    refine lc_sel (fun z => decide (a < z)) hR nD hl (fun z H' Q h => ⟨.int z, rfl, .int a, rfl, _, _, rfl, rfl, _, rfl, h⟩) (fun z H' Q h => ⟨.int z, rfl, h⟩) (fun _ => rfl) (fun H2 s2 e2 => ?_)
    have I2 := hI.same s2
    refine ⟨.ref D, rfl, D, _, rfl, .inl (SqL.of e2), _, rfl, p, C, dx, _, _, rfl, s2 _ _ hp, T.cl, T.nP, iflds_p _ _, .int a, rfl, d, _, rfl, dget_pof I2.dc hnd ha, _, _, rfl, rfl, ?_⟩
    have := q H2 s2
    unfold bearB eldN at this
    rw [List.length_map]
    exact this
end
end El
namespace El
open PySem PySem.Spec PyProof.Rows L2
section
variable {P : Program} {w : World} {K : PySem.W.Frag} {mg : Str → Option Value} {base : Heap}
abbrev s_Inn__eldest_back : Stmt := inClass (topS 8) 12
abbrev N_Inn__eldest_back : List Str := ["self", "number", "behind", "room", "age"]
abbrev P_Inn__eldest_back : List Str := ["self", "number"]
theorem sc_Inn__eldest_back : FnScope N_Inn__eldest_back P_Inn__eldest_back (defScope s_Inn__eldest_back) := ⟨rfl, rfl, rfl, by decide +kernel, rfl, by decide +kernel, by decide +kernel⟩
def oV : Option Int → V
  | none => .non
  | some a => .int a
def sp_Inn__eldest_back (C : Addr) : Sp := fun vs H Q _ => ∃ (B : Addr → Prop) (p d o : Addr) (ts : List Addr) (gs : List (Int × Int)) (rs : List (List Int)) (n : Nat) (R : List Int), vs = [.ref p, .int n] ∧ InnAt C H B p d o ts gs rs ∧ (gs.map (·.1)).Nodup ∧ (∀ a ∈ rs.flatten, a ∈ gs.map (·.1)) ∧ rs.length ≤ 1000 ∧ rs.flatten.length ≤ 1000 ∧
  rs[n]? = some R ∧ ∀ H', Same H H' → Q (oV (backE gs rs n)) H'
theorem flat_take_le (rs : List (List Int)) (m : Nat) : (rs.take m).flatten.length ≤ rs.flatten.length := by
  have := congrArg List.length (congrArg List.flatten (List.take_append_drop m rs))
  rw [List.flatten_append, List.length_append] at this
  omega
theorem flat_drop_le (rs : List (List Int)) (m : Nat) : (rs.drop m).flatten.length ≤ rs.flatten.length := by
  have := congrArg List.length (congrArg List.flatten (List.take_append_drop m rs))
  rw [List.flatten_append, List.length_append] at this
  omega
theorem ok_Inn__eldest_back {C : Addr} (A : Ma K C "_eldest_back" "Inn._eldest_back" P_Inn__eldest_back s_Inn__eldest_back) (B : Bi mg) (T : InnT K mg C) (M__bears : Mf P w K mg base 1 C "_bears" "Inn._bears" P_Inn__bears s_Inn__bears (sp_Inn__bears C)) :
    Mf P w K mg base 2 C "_eldest_back" "Inn._eldest_back" P_Inn__eldest_back s_Inn__eldest_back (sp_Inn__eldest_back C) := by
  refine A.mf fun f fd F => F.ok sc_Inn__eldest_back (fun vs H Q E h => ?_) (fun cdv AA outer s H vs Q E hr h => ?_)
  · obtain ⟨_, _, _, _, _, _, _, _, _, rfl, _⟩ := h
    rfl
  · obtain ⟨BB, p, d, o, ts, gs, rs, n, R, rfl, hI, hnd, hin, hl, hf, eR, q⟩ := h
    have nd := sc_Inn__eldest_back.nd
    refine ⟨_, (pss_cons (ps_setLc2 (i := 2) (own := [("room", 3), ("age", 4)]) (vs1 := [4]) (tt := tYes) (tt1 := tYes) rfl nd rfl rfl (sw_true rfl rfl rfl (by decide +kernel)) (pi_list (pe_slice sl_list (pe_fld (pv 0) rfl) (po_some (pe_op op_add (pv 1) pe_int)) po_none)) (blkOk_by (N := N_Inn__eldest_back) (sc := defScope s_Inn__eldest_back) (by decide +kernel)) (by decide) (fun _ _ _ _ _ => (pg_name (i := 3) nd rfl (.inl rfl))) (fun _ _ _ _ _ => pts_nil) (fun _ _ _ _ _ => (piListK K (pv 3))) (fun _ _ _ _ _ => (pg_name (i := 4) nd rfl (.inl rfl))) (fun _ _ _ _ _ => pts_nil) (fun _ _ _ _ _ => (pv 4)))
    (pss_one (ps_ret (pe_callBK (cr_maxDf K hr.units rfl) (by rfl) B.max (by decide +kernel) (pa_cons (pe_lc (own := [("age", 4)]) rfl nd (pi_list (pv 2)) (blkOk_by (N := N_Inn__eldest_back) (sc := defScope s_Inn__eldest_back) (by decide +kernel)) (fun _ _ _ _ _ => (pg_name (i := 4) nd rfl (.inl rfl))) (fun _ _ _ _ _ => (pts_one (pt_val (pe_mf M__bears T.cl (hr.mono (by decide)) (pv 0) (pa_cons (pv 4) (pa_cons (pv 1) pa_nil)))))) (fun _ _ _ _ _ => (pv 4))) pa_nil) (pk_cons pe_non pk_nil))))), ?_⟩
    obtain ⟨dx, hp⟩ := hI.ob
    -- behind
    refine ⟨_, rfl, p, C, dx, _, _, rfl, hp, T.cl, T.nR, iflds_r _ _, _, rfl, _, _, rfl, rfl, _, rfl, o, _, rfl, hI.rm.seq, fun z nz => ?_⟩
    rw [show ((n : Int) + 1) = ((n + 1 : Nat) : Int) by omega, cut_from, ← List.map_drop]
    have sz : Same H (upd H z (.lst ((ts.drop (n + 1)).map V.ref))) := same_new nz
    have ez : upd H z (.lst ((ts.drop (n + 1)).map V.ref)) z = some (.lst ((ts.drop (n + 1)).map V.ref)) := upd_same
    have I1 := hI.same sz
    revert sz ez I1
    generalize upd H z (.lst ((ts.drop (n + 1)).map V.ref)) = H1
    intro sz ez I1
    refine ⟨z, rfl, ⟨_, SqL.of ez⟩, fun D nD => ?_⟩
    have hdr : ∀ m, ((rs.drop (n + 1)).take m).flatten.length ≤ 1000 := fun m => Nat.le_trans (flat_take_le _ _) (Nat.le_trans (flat_drop_le _ _) hf)
    refine out_it (walk_list (xs := (ts.drop (n + 1)).map V.ref)) (fun i H3 => Same H1 H3 ∧ H3 D = some (.lst ((((rs.drop (n + 1)).take i).flatten).map V.int))) ⟨same_new nD, upd_same⟩ (fun i H3 _ hW => ?_) (fun i x H3 H4 hi hW hY => ?_) (fun H3 hW => ?_)
    · exact SqL.of (hW.1 _ _ ez)
    · obtain ⟨sm, hD⟩ := hW
      obtain ⟨rfl, hx⟩ := hY
      obtain ⟨t, et0, rfl⟩ := refs_at hx
      have hi' : i < (rs.drop (n + 1)).length := by
        have := at_lt et0
        rw [List.length_drop] at this ⊢
        rw [← hI.rm.len]
        exact this
      obtain ⟨r, er⟩ := at_some hi'
      have et1 : H1 t = some (.lst (r.map V.int)) := by
        refine I1.rm.at' (n + 1 + i) t r ?_ ?_
        · rw [← List.getElem?_drop]
          exact et0
        · rw [← List.getElem?_drop]
          exact er
      have et := sm _ _ et1
      have ntD : t ≠ D := ne_of_none et1 nD
      refine ⟨rfl, .ref t, rfl, t, rfl, ⟨_, SqL.of et⟩, ?_⟩
      have hlen := hdr (i + 1)
      rw [take_snoc_flat er, List.length_append] at hlen
      refine out_it (walk_list (xs := r.map V.int)) (fun k H5 => Same H1 H5 ∧ H5 D = some (.lst ((((rs.drop (n + 1)).take i).flatten ++ r.take k).map V.int))) ⟨sm, by rw [List.take_zero, List.append_nil]; exact hD⟩ (fun k H5 _ hW => ?_) (fun k x H5 H6 hk hW hY => ?_) (fun H5 hW => ?_)
      · exact SqL.of (hW.1 _ _ et1)
      · obtain ⟨sm5, hD5⟩ := hW
        obtain ⟨rfl, hx⟩ := hY
        obtain ⟨a', ea, rfl⟩ := ints_at hx
        refine ⟨rfl, .int a', rfl, _, hD5, ils (by rw [List.length_map, List.length_append, List.length_take]; omega), Same.mut sm5 nD, ?_⟩
        rw [upd_same, take_snoc ea, ← List.append_assoc, List.map_append (l₂ := [a'])]
        rfl
      · obtain ⟨sm5, hD5⟩ := hW
        rw [List.length_map, take_full, ← take_snoc_flat er] at hD5
        exact ⟨sm5, hD5⟩
    · obtain ⟨sm, hD⟩ := hW
      rw [List.length_map, show (ts.drop (n + 1)).length = (rs.drop (n + 1)).length by rw [List.length_drop, List.length_drop, hI.rm.len], take_full] at hD
      have I3 := I1.same sm
      have s3 := sz.trans sm
      dsimp only [gName]
      have lB : (rs.drop (n + 1)).flatten.length ≤ 1000 := Nat.le_trans (flat_drop_le _ _) hf
      have inB : ∀ a ∈ (rs.drop (n + 1)).flatten, a ∈ gs.map (·.1) := fun a m => hin a (by
        obtain ⟨r, hr, ha⟩ := List.mem_flatten.mp m
        exact List.mem_flatten.mpr ⟨r, List.mem_of_mem_drop hr, ha⟩)
      have lR : R.length ≤ 1000 := Nat.le_trans (room_le_flat _ _ (List.mem_of_getElem? eR)) hf
      have eb : backE gs rs n = ((rs.drop (n + 1)).flatten.filter (bearB gs R)).max? := by
        unfold backE
        rw [List.getD_eq_getElem?_getD, eR]
        rfl
      rw [eb] at q
      revert lB inB hD q
      generalize (rs.drop (n + 1)).flatten = bh
      intro q hD lB inB
      refine ⟨_, rfl, D, rfl, ⟨_, SqL.of hD⟩, fun D2 nD2 => ?_⟩
      refine lc_it (walk_list (xs := bh.map V.int)) (fun k H5 => Same H3 H5 ∧ H5 D2 = some (.lst (((bh.take k).filter (bearB gs R)).map V.int))) ⟨same_new nD2, upd_same⟩ (fun k H5 _ hW => SqL.of (hW.1 _ _ hD)) (fun k x H5 H6 hk hW hY => ?_) (fun H5 hW => ?_)
      · obtain ⟨sm5, e5⟩ := hW
        obtain ⟨rfl, hx⟩ := hY
        obtain ⟨a', ea, rfl⟩ := ints_at hx
        have I5 := I3.same sm5
        obtain ⟨dx5, hp5⟩ := I5.ob
        refine ⟨rfl, .ref p, rfl, p, dx5, _, rfl, hp5, iflds_no _ _ (by decide +kernel) (by decide +kernel), _, rfl, _, rfl, BB, p, d, o, ts, gs, rs, a', n, R, rfl, I5, hnd, inB a' (List.mem_of_getElem? ea), eR, lR, fun H7 s7 => ⟨_, rfl, ?_⟩⟩
        have es : (bh.take (k + 1)).filter (bearB gs R) = (bh.take k).filter (bearB gs R) ++ if bearB gs R a' = true then [a'] else [] := by
          rw [take_snoc ea, List.filter_append, List.filter_cons, List.filter_nil]
        have hlb : ((bh.take k).filter (bearB gs R)).length ≤ 1000 := by
          refine Nat.le_trans (List.length_filter_le _ _) ?_
          rw [List.length_take]
          omega
        by_cases hb : bearB gs R a' = true
        · refine ifYes hb ⟨.int a', rfl, _, s7 _ _ e5, ils (by rw [List.length_map]; omega), Same.mut (sm5.trans s7) nD2, ?_⟩
          rw [upd_same, es, if_pos hb, List.map_append]
          rfl
        · refine ifNo (by simpa using hb) ⟨sm5.trans s7, ?_⟩
          rw [es, if_neg hb, List.append_nil]
          exact s7 _ _ e5
      · obtain ⟨sm5, e5⟩ := hW
        rw [List.length_map, List.take_length] at e5
        refine ⟨D2, _, .non, rfl, rfl, SqL.of e5, fun en => ?_, fun m hm hm2 => ?_⟩
        · have := q H5 (s3.trans sm5)
          rw [en] at this
          exact this
        · have := q H5 (s3.trans sm5)
          rw [List.max?_eq_some_iff.mpr ⟨hm, hm2⟩] at this
          exact this
end
end El
namespace El
open PySem PySem.Spec PyProof.Rows L2
section
variable {P : Program} {w : World} {K : PySem.W.Frag} {mg : Str → Option Value} {base : Heap}
abbrev s_Inn_go : Stmt := inClass (topS 8) 2
abbrev N_Inn_go : List Str := ["self", "age", "number", "told", "mover", "left"]
abbrev P_Inn_go : List Str := ["self", "age"]
theorem sc_Inn_go : FnScope N_Inn_go P_Inn_go (defScope s_Inn_go) := ⟨rfl, rfl, rfl, by decide +kernel, rfl, by decide +kernel, by decide +kernel⟩
/-- all guests but the one of age a -/
abbrev butA (gs : List (Int × Int)) (a : Int) : List (Int × Int) := gs.filter fun g => decide (g.1 ≠ a)
theorem pks_drop (gs : List (Int × Int)) (a : Int) : dropK (pks gs) (Sum.inl a) = pks (butA gs a) := by
  induction gs with
  | nil => rfl
  | cons g gs ih =>
    by_cases h : g.1 = a
    · rw [show pks (g :: gs) = ((Sum.inl g.1 : L2.Key), V.int g.2) :: pks gs from rfl, dropK_pos (by rw [h]), ih]
      unfold butA
      rw [List.filter_cons, if_neg (by simp [h])]
    · rw [show pks (g :: gs) = ((Sum.inl g.1 : L2.Key), V.int g.2) :: pks gs from rfl, dropK_neg (fun z => h (Sum.inl.inj z)), ih]
      unfold butA
      rw [List.filter_cons, if_pos (decide_eq_true h)]
      rfl
theorem RmsAt.popL {H : Hp} {B : Addr → Prop} {o : Addr} {ts : List Addr} {rs : List (List Int)} {r : List Int} (h : RmsAt H B o ts (rs ++ [r])) : ∃ ts', (ts.map V.ref).dropLast = ts'.map V.ref ∧ RmsAt (upd H o (.lst (ts'.map V.ref))) B o ts' rs := by
  have hl := h.len
  rw [List.length_append, List.length_singleton] at hl
  have e : ts = ts.dropLast ++ [ts.getLast (fun z => by rw [z] at hl; cases hl)] := (List.dropLast_concat_getLast _).symm
  have sub : ∀ t ∈ ts.dropLast, t ∈ ts := fun t m => (List.dropLast_sublist ts).subset m
  have hl2 : ts.dropLast.length = rs.length := by
    rw [List.length_dropLast]
    omega
  refine ⟨ts.dropLast, by rw [List.map_dropLast], upd_same, h.bo, (List.dropLast_sublist ts).nodup h.nd, fun m => h.no (sub _ m), hl2, fun i t x e1 e2 => ?_, fun t m => h.b t (sub t m)⟩
  have nt : t ≠ o := fun z => h.no (z ▸ sub t (List.mem_of_getElem? e1))
  rw [upd_ne nt]
  refine h.at' i t x ?_ ?_
  · rw [e, List.getElem?_append_left (at_lt e1)]
    exact e1
  · rw [List.getElem?_append_left (at_lt e2)]
    exact e2
def sp_Inn_go (C : Addr) : Sp := fun vs H Q _ => ∃ (B : Addr → Prop) (p d o : Addr) (ts : List Addr) (gs : List (Int × Int)) (a : Int), vs = [.ref p, .int a] ∧ InnAt C H B p d o ts gs (settle gs) ∧ Fit gs ∧ a ∈ gs.map (·.1) ∧ gs.length ≤ 400 ∧
  ∀ H' q us ts', InnAt C H' (Apart B H q us) p d o ts' (butA gs a) (settle (butA gs a)) → GsAt H' (fun b => H b = none) q us (goT gs a) → Kp (fun b => ¬ B b) H H' → (∀ b, H' b = none → H b = none) → Q (.ref q) H'
/-- how it stands within go -/
structure Gs (C : Addr) (B : Addr → Prop) (H : Hp) (p d o q : Addr) (gs : List (Int × Int)) (T : List (Int × Int)) (us ts : List Addr) (rs : List (List Int)) (H2 : Hp) : Prop where
  g : GsAt H2 (fun b => H b = none) q us T
  i : InnAt C H2 (Apart B H q us) p d o ts gs rs
  k : Kp (fun b => ¬ B b) H H2
  v : ∀ b, H2 b = none → H b = none
theorem Gs.same {C : Addr} {B : Addr → Prop} {H : Hp} {p d o q : Addr} {gs : List (Int × Int)} {T : List (Int × Int)} {us ts : List Addr} {rs : List (List Int)} {H2 H3 : Hp} (h : Gs C B H p d o q gs T us ts rs H2) (s : Same H2 H3) : Gs C B H p d o q gs T us ts rs H3 :=
  ⟨h.g.same s, h.i.same s, h.k.trans (.of s), fun b e => h.v b (s.free e)⟩
theorem upd_live {H : Hp} {a : Addr} {v : HO} {H0 : Hp} (h : ∀ b, H b = none → H0 b = none) : ∀ b, upd H a v b = none → H0 b = none := fun b e => by
  by_cases z : b = a
  · rw [z, upd_same] at e
    cases e
  · rw [upd_ne z] at e
    exact h b e
/-- one of the Inn's own cells is changed -/
theorem Gs.own {C : Addr} {B : Addr → Prop} {H : Hp} {p d o q : Addr} {gs gs' : List (Int × Int)} {T : List (Int × Int)} {us ts ts' : List Addr} {rs rs' : List (List Int)} {H2 : Hp} {r : Addr} {v : HO} (h : Gs C B H p d o q gs T us ts rs H2) (br : Apart B H q us r) (i : InnAt C (upd H2 r v) (Apart B H q us) p d o ts' gs' rs') : Gs C B H p d o q gs' T us ts' rs' (upd H2 r v) := by
  refine ⟨((h.g.reB (B' := fun b => H b = none ∧ b ≠ r) fun b m hb => ⟨hb, fun z => ?_⟩).keep (Kp.mut Kp.refl fun z => z.2 rfl)).weaken fun b z => z.1, i, ?_, upd_live h.v⟩
  · rcases m with m | m
    · exact br.2.1 (z.symm.trans m)
    · exact br.2.2 (z ▸ m)
  · rcases br.1 with z | z
    · exact h.k.mut fun y => y z
    · exact h.k.mutF z
/-- a room loses one of its guests -/
theorem Gs.lose {C : Addr} {B : Addr → Prop} {H : Hp} {p d o q : Addr} {gs : List (Int × Int)} {T : List (Int × Int)} {us ts : List Addr} {rs : List (List Int)} {H2 : Hp} (h : Gs C B H p d o q gs T us ts rs H2) {m : Nat} {r : Addr} {S : List Int} (er : ts[m]? = some r) :
    Gs C B H p d o q gs T us ts (rs.set m S) (upd H2 r (.lst (S.map V.int))) :=
  h.own (h.i.rm.b r (List.mem_of_getElem? er)) (h.i.rooms (Kp.mut Kp.refl fun z => z.2 (List.mem_of_getElem? er)) (h.i.rm.set er S))
def GoW (C : Addr) (B : Addr → Prop) (H : Hp) (p d o q : Addr) (gs : List (Int × Int)) (a : Int) (len : Nat) (TT : List (Int × Int)) (m : Nat) (σ : L2.St) (H2 : Hp) : Prop :=
  ∃ (T : List (Int × Int)) (us ts : List Addr) (rs : List (List Int)) (n k : Nat) (y5 : Option V), σ = [some (.ref p), some (.int a), some (.int n), some (.ref q), some (oV (backE gs rs n)), y5] ∧ Gs C B H p d o q gs T us ts rs H2 ∧ Hole gs rs n ∧ rs.length = len ∧ m + n = len ∧ len ≤ k + n ∧ TT = T ++ goF k gs rs n ∧ T.length ≤ n
theorem ok_Inn_go {C : Addr} (A : Ma K C "go" "Inn.go" P_Inn_go s_Inn_go) (B : Bi mg) (T : InnT K mg C) (M_where : Mf P w K mg base 2 C "where" "Inn.where" P_Inn_where s_Inn_where (sp_Inn_where C)) (M__eldest_back : Mf P w K mg base 2 C "_eldest_back" "Inn._eldest_back" P_Inn__eldest_back s_Inn__eldest_back (sp_Inn__eldest_back C))
    (M__enter : Mf P w K mg base 1 C "_enter" "Inn._enter" P_Inn__enter s_Inn__enter (sp_Inn__enter C)) : Mf P w K mg base 3 C "go" "Inn.go" P_Inn_go s_Inn_go (sp_Inn_go C) := by
  refine A.mf fun f fd F => F.ok sc_Inn_go (fun vs H Q E h => ?_) (fun cdv AA outer s H vs Q E hr h => ?_)
  · obtain ⟨_, _, _, _, _, _, _, rfl, _⟩ := h
    rfl
  · obtain ⟨BB, p, d, o, ts, gs, a, rfl, hI, hF, ha, hl, q1⟩ := h
    have nd := sc_Inn_go.nd
    refine ⟨_, (pss_cons (ps_set (i := 2) nd rfl (.inl rfl) (pe_mf M_where T.cl (hr.mono (by decide)) (pv 0) (pa_cons (pv 1) pa_nil)))
    (pss_cons (ps_ddel (pe_fld (pv 0) rfl) (pv 1))
    (pss_cons (ps_expr (pe_bm PySem.F.plainAttrs_list PySem.F.slot_list_remove PySem.F.type_list_remove mt_remove (pe_ix ix_list (pe_fld (pv 0) rfl) (pv 2) (fun _ _ => rfl)) (pa_cons (pv 1) pa_nil)))
    (pss_cons (ps_set (i := 3) nd rfl (.inl rfl) (pe_lst pa_nil))
    (pss_cons (ps_set (i := 4) nd rfl (.inl rfl) (pe_mf M__eldest_back T.cl (hr.mono (by decide)) (pv 0) (pa_cons (pv 2) pa_nil)))
    (pss_cons (ps_while PassesOwn.never (pt_cmpR op_notN (pv 4) pe_non (nomark _)) (pss_cons (ps_set (i := 5) nd rfl (.inl rfl) (pe_mf M_where T.cl (hr.mono (by decide)) (pv 0) (pa_cons (pv 4) pa_nil))) (pss_cons (ps_expr (pe_bm PySem.F.plainAttrs_list PySem.F.slot_list_remove PySem.F.type_list_remove mt_remove (pe_ix ix_list (pe_fld (pv 0) rfl) (pv 5) (fun _ _ => rfl)) (pa_cons (pv 4) pa_nil))) (pss_cons (ps_expr (pe_mf M__enter T.cl (hr.mono (by decide)) (pv 0) (pa_cons (pv 4) (pa_cons (pv 2) pa_nil)))) (pss_cons (ps_expr (pe_bm PySem.F.plainAttrs_list PySem.F.slot_list_append PySem.F.type_list_append mt_append (pv 3) (pa_cons (pe_tup (pa_cons (pv 4) (pa_cons (pv 2) pa_nil))) pa_nil))) (pss_cons (ps_set (i := 2) nd rfl (.inl rfl) (pv 5)) (pss_one (ps_set (i := 4) nd rfl (.inl rfl) (pe_mf M__eldest_back T.cl (hr.mono (by decide)) (pv 0) (pa_cons (pv 2) pa_nil))))))))))
    (pss_cons (ps_if (pt_not (pt_truth (pe_ix ix_list (pe_fld (pv 0) rfl) (pv 2) (fun _ _ => rfl)) (by intro _; rfl))) (pss_one (ps_expr (pe_bm0 PySem.F.plainAttrs_list PySem.F.slot_list_pop PySem.F.type_list_pop mt_pop (pe_fld (pv 0) rfl)))) pss_nil)
    (pss_one (ps_ret (pv 3)))))))))), ?_⟩
    obtain ⟨dx, hp⟩ := hI.ob
    obtain ⟨x, hx, rfl⟩ := List.mem_map.mp ha
    obtain ⟨n, R, eR, xR, ndR, only, hH⟩ := Hole.start hF hx
    have lset : (settle gs).length ≤ gs.length := by
      have := settleL_len (byAge gs)
      rw [byAge_length] at this
      exact this
    have hn : n < (settle gs).length := at_lt eR
    have hw : whereI (settle gs) x.1 = n := whereI_is eR xR only
    have egT : goT gs x.1 = goF (settle gs).length (butA gs x.1) ((settle gs).set n (R.erase x.1)) n := by
      unfold goT
      rw [hw, List.getD_eq_getElem?_getD, eR]
      rfl
    have F2 : Fit (butA gs x.1) := hF.without x.1
    have l2 : (butA gs x.1).length ≤ gs.length := List.length_filter_le _ _
    -- number = self.where(age)
    refine ⟨.ref p, rfl, p, dx, _, rfl, hp, iflds_no _ _ (by decide +kernel) (by decide +kernel), _, rfl, BB, p, d, o, ts, gs, settle gs, x.1, n, R, rfl, hI, hF.nd, ha, by omega, eR, xR, only, fun H1 s1 => ?_⟩
    dsimp only [gName]
    have I1 := hI.same s1
    obtain ⟨dx1, hp1⟩ := I1.ob
    -- del self._patience_of[age]
    refine ⟨_, rfl, p, C, dx1, _, _, rfl, hp1, T.cl, T.nP, iflds_p _ _, _, rfl, d, _, Sum.inl x.1, rfl, I1.dc, rfl, (by rw [pks_is hF.nd ha]; rfl), ?_⟩
    rw [pks_drop]
    have I2 : InnAt C (upd H1 d (.dK (pks (butA gs x.1)))) BB p d o ts (butA gs x.1) (settle gs) := by
      refine ⟨⟨dx1, by rw [upd_ne I1.pd]; exact hp1⟩, upd_same, ?_, I1.bp, I1.bd⟩
      exact I1.rm.newTop (fun b u m e => by
        have : b ≠ d := by
          rcases m with rfl | m
          · exact I1.od
          · exact (I1.room m).2
        rw [upd_ne this]
        exact e) fun b m => by
          rcases m with rfl | m
          · exact I1.rm.bo
          · exact I1.rm.b b m
    have k2 : Kp (fun b => ¬ BB b) H (upd H1 d (.dK (pks (butA gs x.1)))) := Kp.mut (Kp.of s1) fun z => z I1.bd
    have v2 : ∀ b, upd H1 d (.dK (pks (butA gs x.1))) b = none → H b = none := upd_live fun b e => s1.free e
    revert I2 k2 v2
    generalize upd H1 d (.dK (pks (butA gs x.1))) = H2
    intro I2 k2 v2
    -- self._rooms[number].remove(age)
    obtain ⟨dx2, hp2⟩ := I2.ob
    obtain ⟨r2, er2, eh2⟩ := I2.rm.of eR
    have at2 : (ts.map V.ref)[n]? = some (.ref r2) := by
      rw [List.getElem?_map, er2]
      rfl
    obtain ⟨j, ej⟩ := List.mem_iff_getElem?.mp xR
    refine ⟨_, rfl, p, C, dx2, _, _, rfl, hp2, T.cl, T.nR, iflds_r _ _, _, rfl, o, _, _, .ref r2, rfl, rfl, SqL.of I2.rm.top, atI_nat (j := n) at2, .inl ⟨rfl, _, SqL.of eh2⟩, .int x.1, rfl, r2, R, x.1, j, rfl, rfl, eh2, ej, fun l hl el => absurd (nd_ix ndR el ej) (by omega), ?_⟩
    rw [← erase_at ndR ej]
    have I3 : InnAt C (upd H2 r2 (.lst ((R.erase x.1).map V.int))) BB p d o ts (butA gs x.1) ((settle gs).set n (R.erase x.1)) := I2.rooms (Kp.mut Kp.refl fun z => z.2 (List.mem_of_getElem? er2)) (I2.rm.set er2 (R.erase x.1))
    have k3 : Kp (fun b => ¬ BB b) H (upd H2 r2 (.lst ((R.erase x.1).map V.int))) := k2.mut fun z => z (I2.rm.b r2 (List.mem_of_getElem? er2))
    have v3 : ∀ b, upd H2 r2 (.lst ((R.erase x.1).map V.int)) b = none → H b = none := upd_live v2
    revert I3 k3 v3
    generalize upd H2 r2 (.lst ((R.erase x.1).map V.int)) = H3
    intro I3 k3 v3
    -- told = []
    refine ⟨Nat.zero_le _, fun q nq => ?_⟩
    have G4 : Gs C BB H p d o q (butA gs x.1) [] [] ts ((settle gs).set n (R.erase x.1)) (upd H3 q (.lst [])) := ⟨⟨upd_same, v3 q nq, rfl, fun i t g e _ => by simp at e, fun t m => by simp at m⟩, (I3.reB (B' := Apart BB H q []) fun b z hb => ⟨.inl hb, (fun e => by
      obtain ⟨v, ev⟩ := z
      rw [e, nq] at ev
      cases ev), by simp⟩).same (same_new nq), k3.new nq, fun b e => v3 b ((same_new nq).free e)⟩
    revert G4
    generalize upd H3 q (.lst []) = H4
    intro G4
    -- what a room that somebody has left tells
    have lens : ∀ {rs : List (List Int)} {m : Nat}, Hole (butA gs x.1) rs m → rs.flatten.length ≤ 1000 := fun hh => by
      obtain ⟨h1, h2, _⟩ := hh.step F2
      have := List.Nodup.length_le_of_subset h1 h2
      rw [List.length_map] at this
      omega
    -- mover = self._eldest_back(number)
    obtain ⟨dx4, hp4⟩ := G4.i.ob
    refine ⟨_, rfl, p, dx4, _, rfl, hp4, iflds_no _ _ (by decide +kernel) (by decide +kernel), _, rfl, _, p, d, o, ts, butA gs x.1, _, n, R.erase x.1, rfl, G4.i, F2.nd, (hH.step F2).2.1, by rw [List.length_set]; omega, lens hH, by rw [List.getElem?_set_self hn], fun H5 s5 => ?_⟩
    have G5 := G4.same s5
    dsimp only [gName]
    refine seq_to (fun σ H6 => ∃ us ts' rs n y5, σ = [some (.ref p), some (.int x.1), some (.int (n : Nat)), some (.ref q), some .non, y5] ∧ Gs C BB H p d o q (butA gs x.1) (goT gs x.1) us ts' rs H6 ∧ Hole (butA gs x.1) rs n ∧ backE (butA gs x.1) rs n = none) (fun X hX => ?_) (fun σ H6 hE => ?_)
    · refine while_to (GoW C BB H p d o q (butA gs x.1) x.1 (settle gs).length (goT gs x.1)) (fun σ H6 => ∃ us ts' rs n y5, σ = [some (.ref p), some (.int x.1), some (.int (n : Nat)), some (.ref q), some .non, y5] ∧ Gs C BB H p d o q (butA gs x.1) (goT gs x.1) us ts' rs H6 ∧ Hole (butA gs x.1) rs n ∧ backE (butA gs x.1) rs n = none)
        ⟨(settle gs).length - n, [], [], ts, _, n, (settle gs).length, none, rfl, G5, hH, List.length_set .., by omega, by omega, egT, Nat.zero_le _⟩ hX (fun X hX m σ H6 hW => ?_)
      obtain ⟨TT, us, ts', rs, n', k, y5, rfl, G6, hh, hrl, hmn, hk, hT, hTl⟩ := hW
      obtain ⟨h1, h2, R', eR', out⟩ := hh.step F2
      rcases out with ⟨hno, _, _⟩ | ⟨y, m', S, hy1, hy2, hy3, hnm, eS, yS, onlyS, hh2⟩
      · have eb := backE_none eR' hno
        rw [eb]
        refine ⟨_, rfl, rfl, _, rfl, ifNo (by show (!decide (V.non = V.non)) = false; simp) ?_⟩
        refine hX _ _ ⟨us, ts', rs, n', y5, rfl, ?_, hh, eb⟩
        have e0 : goF k (butA gs x.1) rs n' = [] := by
          cases k with
          | zero => rfl
          | succ k =>
            rw [goF, eb]
        rw [e0, List.append_nil] at hT
        rw [hT]
        exact G6
      · have eb := backE_some eR' hy1 hy2 hy3
        rw [eb]
        refine ⟨_, rfl, rfl, _, rfl, ifYes (by show (!decide (V.int y = V.non)) = true; simp) ?_⟩
        refine ⟨fun σ' H' => ∃ m', m' < m ∧ GoW C BB H p d o q (butA gs x.1) x.1 (settle gs).length (goT gs x.1) m' σ' H', fun σ' H' h => h, ?_⟩
        have hm' : m' < rs.length := at_lt eS
        have yin : y ∈ (butA gs x.1).map (·.1) := h2 y (List.mem_flatten.mpr ⟨S, List.mem_of_getElem? eS, yS⟩)
        have ndS : S.Nodup := by
          obtain ⟨A1, A2, e⟩ := List.append_of_mem (List.mem_of_getElem? eS)
          rw [e, List.flatten_append, List.flatten_cons] at h1
          exact (List.nodup_append.mp (List.nodup_append.mp h1).2.1).1
        -- left = self.where(mover)
        obtain ⟨dx6, hp6⟩ := G6.i.ob
        refine ⟨_, rfl, p, dx6, _, rfl, hp6, iflds_no _ _ (by decide +kernel) (by decide +kernel), _, rfl, _, p, d, o, ts', _, rs, y, m', S, rfl, G6.i, F2.nd, yin, by omega, eS, yS, onlyS, fun H7 s7 => ?_⟩
        dsimp only [gName]
        have G7 := G6.same s7
        -- self._rooms[left].remove(mover)
        obtain ⟨dx7, hp7⟩ := G7.i.ob
        obtain ⟨r7, er7, eh7⟩ := G7.i.rm.of eS
        have at7 : (ts'.map V.ref)[m']? = some (.ref r7) := by
          rw [List.getElem?_map, er7]
          rfl
        obtain ⟨j7, ej7⟩ := List.mem_iff_getElem?.mp yS
        refine ⟨_, rfl, p, C, dx7, _, _, rfl, hp7, T.cl, T.nR, iflds_r _ _, _, rfl, o, _, _, .ref r7, rfl, rfl, SqL.of G7.i.rm.top, atI_nat (j := m') at7, .inl ⟨rfl, _, SqL.of eh7⟩, .int y, rfl, r7, S, y, j7, rfl, rfl, eh7, ej7, fun l hl el => absurd (nd_ix ndS el ej7) (by omega), ?_⟩
        rw [← erase_at ndS ej7]
        have G8 := G7.lose (S := S.erase y) er7
        revert G8
        generalize upd H7 r7 (.lst ((S.erase y).map V.int)) = H8
        intro G8
        -- self._enter(mover, number)
        obtain ⟨dx8, hp8⟩ := G8.i.ob
        have lrs : (rs.set m' (S.erase y)).length ≤ 1000 := by
          rw [List.length_set]
          omega
        have lrm : ∀ r ∈ rs.set m' (S.erase y), r.length ≤ 1000 := fun r mr => by
          have hf := lens hh
          rcases List.mem_or_eq_of_mem_set mr with mr | rfl
          · exact Nat.le_trans (room_le_flat _ _ mr) hf
          · exact Nat.le_trans (List.length_erase_le ..) (Nat.le_trans (room_le_flat _ _ (List.mem_of_getElem? eS)) hf)
        have hn' : n' < rs.length := at_lt eR'
        refine ⟨_, rfl, p, dx8, _, rfl, hp8, iflds_no _ _ (by decide +kernel) (by decide +kernel), _, rfl, _, rfl, _, p, d, o, ts', _, _, y, n', rfl, G8.i, (by rw [List.length_set]; omega), lrs, lrm, fun H9 ts9 R9 k9 => ?_⟩
        have er9 : (rs.set m' (S.erase y))[n']? = some R' := by
          rw [List.getElem?_set_ne (by omega)]
          exact eR'
        rw [enterR_old y er9] at R9
        have gone8 : ∀ b, H8 b = none → Apart BB H q us b := fun b e => by
          refine ⟨?_, fun z => ?_, fun z => ?_⟩
          · by_cases hb : BB b
            · exact .inl hb
            · exact .inr (G8.k.none hb e)
          · obtain ⟨v, ev⟩ := G8.g.there b (.inl z)
            rw [e] at ev
            cases ev
          · obtain ⟨v, ev⟩ := G8.g.there b (.inr z)
            rw [e] at ev
            cases ev
        have bo8 := G8.i.rm.bo
        have G9 : Gs C BB H p d o q (butA gs x.1) TT us ts9 ((rs.set m' (S.erase y)).set n' (down (R' ++ [y]))) H9 := by
          refine ⟨((G8.g.reB (B' := fun b => H b = none ∧ b ≠ o) fun b m hb => ⟨hb, fun z => ?_⟩).keep (k9.weak fun b z => z.2)).weaken fun b z => z.1, ⟨⟨dx8, k9 _ _ G8.i.po hp8⟩, k9 _ _ G8.i.od.symm G8.i.dc, R9.weaken fun b z => z.elim id (gone8 b), G8.i.bp, G8.i.bd⟩, fun b u hb e => k9 b u (fun z => (z ▸ bo8).1.elim (fun y => hb y) (fun y => by rw [y] at e; cases e)) (G8.k b u hb e), fun b e => G8.v b (k9.none (fun z => by
            rw [z, R9.top] at e
            cases e) e)⟩
          rcases m with m | m
          · exact bo8.2.1 (z.symm.trans m)
          · exact bo8.2.2 (z ▸ m)
        -- told.append((mover, number))
        refine ⟨.ref q, rfl, .inl ⟨rfl, _, G9.g.seq⟩, .int y, rfl, .int n', rfl, (by show 2 ≤ sizeLine; decide), fun t nt => ?_⟩
        have G10 := G9.same (same_new (o := .tup [.int y, .int n']) nt)
        have et : upd H9 t (.tup [.int y, .int n']) t = some (.tup [.int ((y, (n' : Int)) : Int × Int).1, .int ((y, (n' : Int)) : Int × Int).2]) := upd_same
        have htn : H t = none := G9.v t nt
        refine ⟨q, _, _, rfl, rfl, G10.g.top, ils (by rw [List.length_map, G10.g.len]; omega), ?_⟩
        have G11 : Gs C BB H p d o q (butA gs x.1) (TT ++ [(y, (n' : Int))]) (us ++ [t]) ts9 ((rs.set m' (S.erase y)).set n' (down (R' ++ [y]))) (upd (upd H9 t (.tup [.int y, .int n'])) q (.lst (us.map V.ref ++ [.ref t]))) := by
          refine ⟨G10.g.push G10.g.offTs (g := (y, (n' : Int))) et htn, ((G9.i.reB (B' := Apart BB H q (us ++ [t])) fun b z hb => ⟨hb.1, hb.2.1, fun m => (List.mem_append.mp m).elim hb.2.2 fun m => ?_⟩).same (same_new nt)).keep (Kp.mut Kp.refl fun z => z.2.1 rfl), (G9.k.new nt).mutF G9.g.ba, upd_live G10.v⟩
          obtain ⟨v, ev⟩ := z
          rw [List.mem_singleton.mp m, nt] at ev
          cases ev
        revert G11
        generalize upd (upd H9 t (.tup [.int y, .int n'])) q (.lst (us.map V.ref ++ [.ref t])) = H11
        intro G11
        -- number = left
        refine ⟨_, rfl, ?_⟩
        dsimp only [gName]
        -- mover = self._eldest_back(number)
        obtain ⟨dx11, hp11⟩ := G11.i.ob
        have eL : ((rs.set m' (S.erase y)).set n' (down (R' ++ [y])))[m']? = some (S.erase y) := by
          rw [List.getElem?_set_ne (by omega), List.getElem?_set_self hm']
        have hlen2 : ((rs.set m' (S.erase y)).set n' (down (R' ++ [y]))).length = (settle gs).length := by
          rw [List.length_set, List.length_set, hrl]
        refine ⟨_, rfl, p, dx11, _, rfl, hp11, iflds_no _ _ (by decide +kernel) (by decide +kernel), _, rfl, _, p, d, o, ts9, butA gs x.1, _, m', S.erase y, rfl, G11.i, F2.nd, (hh2.step F2).2.1, by omega, lens hh2, eL, fun H12 s12 => ?_⟩
        dsimp only [gName]
        obtain ⟨k', rfl⟩ : ∃ k', k = k' + 1 := ⟨k - 1, by omega⟩
        have eg : goF (k' + 1) (butA gs x.1) rs n' = (y, (n' : Int)) :: goF k' (butA gs x.1) ((rs.set m' (S.erase y)).set n' (down (R' ++ [y]))) m' := by
          rw [goF, eb]
          show (y, (n' : Int)) :: goF k' _ (moveR rs (whereI rs y) n' y) (whereI rs y) = _
          rw [whereI_is eS yS onlyS]
          unfold moveR
          rw [List.getD_eq_getElem?_getD, eS, List.getD_eq_getElem?_getD, eR']
          rfl
        refine ⟨m - (m' - n'), by omega, TT ++ [(y, (n' : Int))], us ++ [t], ts9, _, m', k', some (.int m'), rfl, G11.same s12, hh2, hlen2, by omega, by omega, ?_, ?_⟩
        · rw [hT, eg, List.append_assoc]
          rfl
        · rw [List.length_append]
          exact Nat.le_trans (Nat.succ_le_succ hTl) hnm
    · obtain ⟨us, ts', rs, n', y5, rfl, G6, hh, eb⟩ := hE
      obtain ⟨h1, h2, R', eR', out⟩ := hh.step F2
      rcases out with ⟨_, hne, hem⟩ | ⟨y, m', S, hy1, hy2, hy3, _⟩
      · obtain ⟨dx6, hp6⟩ := G6.i.ob
        obtain ⟨r6, er6, eh6⟩ := G6.i.rm.of eR'
        have at6 : (ts'.map V.ref)[n']? = some (.ref r6) := by
          rw [List.getElem?_map, er6]
          rfl
        refine ⟨_, rfl, p, C, dx6, _, _, rfl, hp6, T.cl, T.nR, iflds_r _ _, _, rfl, o, _, _, .ref r6, rfl, rfl, SqL.of G6.i.rm.top, atI_nat (j := n') at6, _, .inl ⟨_, SqL.of eh6, rfl⟩, ?_⟩
        by_cases hR : R' = []
        · have eset := hem hR
          subst hR
          refine ifYes rfl ?_
          subst eset
          obtain ⟨tsP, eP, RP⟩ := G6.i.rm.popL
          have hlt : 0 < ts'.length := by
            rw [G6.i.rm.len, List.length_append]
            exact Nat.succ_pos _
          obtain ⟨z, ez⟩ := at_some (l := ts'.map V.ref) (i := (ts'.map V.ref).length - 1) (by rw [List.length_map]; omega)
          refine ⟨_, rfl, p, C, dx6, _, _, rfl, hp6, T.cl, T.nR, iflds_r _ _, .inl ⟨rfl, _, SqL.of G6.i.rm.top⟩, o, _, z, rfl, rfl, G6.i.rm.top, ez, ?_⟩
          rw [eP]
          have G7 := G6.own (ts' := tsP) (rs' := settle (butA gs x.1)) (v := .lst (tsP.map V.ref)) G6.i.rm.bo (G6.i.rooms (Kp.mut Kp.refl fun z => z.1 rfl) RP)
          exact ⟨_, rfl, q1 _ _ _ _ G7.i G7.g G7.k G7.v⟩
        · have eset := hne hR
          subst eset
          refine ifNo ?_ ?_
          · cases R' with
            | nil => exact absurd rfl hR
            | cons a b => rfl
          · exact ⟨_, rfl, q1 _ _ _ _ G6.i G6.g G6.k G6.v⟩
      · rw [backE_some eR' hy1 hy2 hy3] at eb
        cases eb
end
end El
namespace El
open PySem PySem.Spec PyProof.Rows L2
theorem comeF_len : ∀ (n : Nat) (gs : List (Int × Int)) (rs : List (List Int)) (i : Nat) (x : Int), (comeF n gs rs i x).1.length ≤ n
  | 0, _, _, _, _ => Nat.le_refl _
  | n + 1, gs, rs, i, x => by
    rw [comeF]
    split
    · show 1 ≤ n + 1
      omega
    · exact Nat.succ_le_succ (comeF_len n _ _ _ _)
theorem comeT_len (gs : List (Int × Int)) (x : Int × Int) : (comeT gs x).length ≤ gs.length + 1 := by
  refine Nat.le_trans (comeF_len _ _ _ _ _) ?_
  have := settleL_len (byAge (gs ++ [x]))
  rw [byAge_length, List.length_append] at this
  exact this
theorem gs_items {H H' : Hp} {p : Addr} {ts : List Addr} {gs : List (Int × Int)} (e : H' p = some (.lst (ts.map V.ref))) (np : H p = none) (nt : ∀ t ∈ ts, H t = none)
    (h : Paired (fun (t : Addr) (q : L2.Key × V) => H' t = some (.tup [kV q.1, q.2])) ts (pks gs)) : GsAt H' (fun b => H b = none) p ts gs := by
  refine ⟨e, np, by rw [h.length, pks_len], fun i t g e1 e2 => ?_, nt⟩
  obtain ⟨y, e3, r⟩ := LiI.paired_get h e1
  rw [show pks gs = gs.map fun g => ((Sum.inl g.1 : L2.Key), V.int g.2) from rfl, List.getElem?_map, e2] at e3
  obtain rfl := Option.some.inj e3
  exact r
end El
namespace El
open PySem PySem.Spec PyProof.Rows L2
section
variable {X : Cx}
/-- many objects that are new, all of them tracked at once -/
theorem inv_many {pins : List (Addr × Obj)} {σ : L2.St} {H H' : Hp} {s : Shared} {h' : Heap} {tk : Nat} (I : Inv X pins σ H s) (grown : ∀ b o, s.heap.get? b = some o → h'.get? b = some o) (old : Same H H')
    (fresh : ∀ b o, H' b = some o → H b = some o ∨ (s.heap.objs.size ≤ b ∧ ObjOk X.prog X.w H' h' b o)) : Inv X pins σ H' { s with heap := h', toks := tk } := by
  have unbound : ∀ b u, s.heap.get? b = some u → H b = none → H' b = none := fun b u there e => by
    cases z : H' b with
    | none => rfl
    | some o =>
      rcases fresh b o z with y | ⟨y, _⟩
      · rw [e] at y
        cases y
      · exact absurd (Heap.lt_size there) (Nat.not_lt.mpr y)
  have change : Un (frs X.stack) [] H H' s.heap h' :=
    { keep := fun b u there _ _ _ => grown b u there
      slot := fun b u there _ _ _ => ⟨u.slots, grown b u there⟩
      free := fun b u there e _ => unbound b u there e
      there := fun b u e _ => ⟨u, grown b u e⟩
      tups := fun b _ e => old b _ e
      frzs := fun b _ _ e => old b _ e
      tbls := fun b _ e => ⟨#[], by rw [old b _ e]; simp⟩ }
  refine I.call' (ch := []) rfl change (fun b u e => ?_) I.bare (fun b z => (List.not_mem_nil z).elim)
  rcases fresh b u e with y | ⟨_, y⟩
  · exact (I.hok b u y).stay (fun c v _ there => grown c v there) (fun c there => old c _ there) (fun c _ there => old c _ there)
  · exact y
theorem Prs.back {H : Hp} {ts : List Addr} {gs : List (Int × Int)} (h : Prs H ts gs) : (ts.map V.ref).map (prOf H) = gs := by
  refine List.ext_getElem? fun i => ?_
  rw [List.map_map, List.getElem?_map]
  cases e : ts[i]? with
  | none =>
    have z : gs[i]? = none := by
      rw [List.getElem?_eq_none_iff] at e ⊢
      rw [← h.len]
      exact e
    rw [z]
    rfl
  | some t =>
    obtain ⟨g, eg⟩ := at_some (l := gs) (i := i) (by rw [← h.len]; exact at_lt e)
    rw [eg]
    show some (prOf H (.ref t)) = some g
    rw [prOf_is (h.at' i t g e eg)]
/-- sorted(v, reverse=b) where the walk over v makes new things -/
theorem sorted_gained {pins : List (Addr × Obj)} {σ : L2.St} {s : Shared} {Q : VK} {b : Bool} {v : Value}
    (walk : ∀ R : List Value → Shared → Prop, (∀ (us : List Value) (h : Heap) (t : Nat) (H1 : Hp) (xs : List V) (less : Value → Value → Bool), Vals xs us → xs.length ≤ sizeLine → Inv X pins σ H1 { s with heap := h, toks := t } → SrtO.Swo less →
      (∀ (s' : Shared) (l : Addr), 2 ≤ us.length → Inv X pins σ (upd H1 l (.lst xs)) s' → H1 l = none → SrtO.SortableO X.prog X.w X.A.in1.in1 s' l us less) →
      (∀ (P : List (V × Value)) (l : Addr), Partners P → (P.map Prod.fst).Perm xs → SrtO.Srtd less (P.map Prod.snd) → H1 l = none → Q (.ref l) (upd H1 l (.lst (turn b (P.map Prod.fst))))) →
      R us { s with heap := h, toks := t }) → wpAny (model X.prog X.w) X.A.in1 (collect v) R X.xe s) :
    wpAny (model X.prog X.w) X.A (call (.builtin "sorted") [v] [(Str.ofString "reverse", .bool b)]) (EP X pins σ Q) X.xe s := by
  refine call_function_entry_kw kind_sorted plain_sorted entry_sorted (args_sorted_rev v (.bool b)) ?_
  refine wpAny_bind (m := checkCount "sorted" 1 1 _) (wpAny_pure ?_)
  refine wpAny_bind (walk _ fun us h t H1 xs less for_xs few I1 O able q => ?_)
  have n2 : us.length ≤ sizeLine := for_xs.length ▸ few
  refine wpAny_bind (wpAny_newList (wpAny_bind (wpAny_holding ?_)) n2)
  generalize hl : ({ s with heap := h, toks := t } : Shared).heap.objs.size = l
  have hl' : h.objs.size = l := hl
  have at_l : (h.push (seqObj "list" us.toArray 0)).get? l = some (seqObj "list" us.toArray 0) := hl' ▸ Heap.get?_push_size _ rfl
  have free : H1 l = none := hl' ▸ I1.hok.fresh (Nat.le_refl _)
  have J : Inv X pins σ (upd H1 l (.lst xs)) { s with heap := h.push (seqObj "list" us.toArray 0), toks := t } :=
    I1.laid (t' := t) (fun _ _ => Heap.get?_push_of_some _) (Nat.le_of_eq hl) ⟨few, _, 0, for_xs, at_l⟩
  refine PyProof.Rows.wpAny_call_entry_kw slot_list_sort ⟨_, at_l, rfl⟩ entry_list_sort ?_ (args_list_sort_rev _ (.bool b))
  refine SrtR.list_sort_ordR O at_l n2 (fun two => able _ l two J free) fun out up same => ⟨_, rfl, wpAny_pure ⟨_, rfl, ?_⟩⟩
  obtain ⟨P0, hP0, rfl, rfl⟩ := partners_of for_xs
  obtain ⟨P, p1, rfl⟩ := go_along (same.perm.trans (turn_perm (P0.map Prod.snd) b))
  rw [turn_arr]
  obtain ⟨e, he⟩ := sortedHeap_at (out := (turn b (P.map Prod.snd)).toArray) at_l
  have hP : Partners P := fun p m => hP0 p (p1.mem_iff.mp m)
  have ends : Partners (turn b P) := fun p m => hP p ((turn_perm P b).mem_iff.mp m)
  have done := J.write (o := .lst (turn b (P.map Prod.fst))) (t' := t) (h' := sortedHeap (h.push (seqObj "list" (P0.map Prod.snd).toArray 0)) l (P0.map Prod.snd) (turn b (P.map Prod.snd)).toArray)
    (by rw [upd_same]; trivial) (.inl rfl) (fun c u away there => (sortedHeap_old away (Heap.lt_size there)).trans there) ⟨_, he⟩
    ⟨by rw [((turn_perm _ b).trans (p1.map _)).length_eq]; exact few, _, e, by rw [← turn_map, ← turn_map]; exact ends.vals, he⟩
  rw [upd_upd] at done
  exact ⟨.ref l, _, done, rfl, q P l hP (p1.map _) up free⟩
/-- e.items(): the view -/
def rViewK : V → List V → Hp → VK → Prop := fun x xs H Q => ∃ (a : Addr) (kvs : List (L2.Key × V)), x = .ref a ∧ xs = [] ∧ H a = some (.dK kvs) ∧ ∀ p, H p = none → Q (.ref p) (upd H p (L2.DX.itemsO p a))
theorem mt_viewK : MtR X "dict.items" rViewK := by
  rintro pins s σ H _ _ v us Q I rx rxs ⟨a, kvs, rfl, rfl, at_a, q⟩
  cases rx
  cases rxs
  have ⟨_, own, _, _, o, es, ep, there, exact_, data, _⟩ := dk_of I.hok at_a
  have new : H s.heap.objs.size = none := I.hok.fresh (Nat.le_refl _)
  refine DT.callItems (es := es) (ep := ep) own ⟨o, there, exact_, data⟩ ⟨.ref _, _, I.laid (t' := s.toks) (fun _ _ => Heap.get?_push_of_some _) (Nat.le_refl _) (L2.DX.itemsO_ok (Heap.get?_push_size _ rfl)), rfl, q _ new⟩
/-- sorted(view, reverse=True) of a dict of guests -/
def rSortIt : List V → List V → Hp → VK → Prop := fun vs zs H Q => ∃ (p a : Addr) (gs : List (Int × Int)), vs = [V.ref p] ∧ zs = [.bl true] ∧ H p = some (L2.DX.itemsO p a) ∧ H a = some (.dK (pks gs)) ∧ Fit gs ∧
  ∀ (H' : Hp) (q : Addr) (us : List Addr), Same H H' → GsAt H' (fun _ => True) q us (byAge gs) → Q (.ref q) H'
theorem cr_sortIt (calm : X.calm = true) : CallRK X (.builtin "sorted") [Str.ofString "reverse"] rSortIt := by
  rintro pins s σ H _ _ us ws Q I one by_kw ⟨p, a, gs, rfl, rfl, at_p, at_a, F, q⟩
  obtain ⟨v, w, rfl, rfl, rfl, rfl⟩ : ∃ v w, us = [v] ∧ ws = [w] ∧ v = .ref p ∧ w = .bool true := by
    cases one with | cons e1 t1 => cases t1; cases by_kw with | cons e2 t2 => cases t2; exact ⟨_, _, rfl, rfl, e1, e2⟩
  have view : s.heap.IsItemsView p a := (show ObjOk X.prog X.w H s.heap p (L2.DX.itemsO p a) from I.hok p _ at_p).1
  have ⟨few, own, ens, same, lies⟩ := dk_of I.hok at_a
  have ⟨ep, lies⟩ := lies.dictAt
  have el : (pks gs).length = ens.length := Paired.length same
  have calm' : X.A.in1.handled = none := I.ok.hd calm
  refine sorted_gained (b := true) fun R go => PySem.W.kdx_collect (knd := mixKind X.prog X.w) calm' view lies (by rw [← el]; exact few) fun h' tk as grown len made => ?_
  have la : as.length = (pks gs).length := len.trans el.symm
  have nd : as.Nodup := made.rise.imp fun h => Nat.ne_of_lt h
  have at_as := LiI.putT_at as (pks gs) H la nd
  have new : ∀ t ∈ as, H t = none := fun t m => I.hok.fresh (Nat.le_of_lt (made.above t m))
  have old : Same H (LiI.putT H as (pks gs)) := fun b u e => by
    rw [LiI.putT_off as (pks gs) H fun m => by rw [new b m] at e; cases e]
    exact e
  have pr : Prs (LiI.putT H as (pks gs)) as gs := by
    refine ⟨by rw [la, pks_len], fun i t g e1 e2 => ?_⟩
    obtain ⟨y, e3, r⟩ := LiI.paired_get at_as e1
    rw [show pks gs = gs.map fun g => ((Sum.inl g.1 : L2.Key), V.int g.2) from rfl, List.getElem?_map, e2] at e3
    obtain rfl := Option.some.inj e3
    exact r
  have J : Inv X pins σ (LiI.putT H as (pks gs)) { s with heap := h', toks := tk } := by
    refine inv_many I grown old fun b o e => ?_
    by_cases m : b ∈ as
    · refine .inr ⟨Nat.le_of_lt (made.above b m), ?_⟩
      obtain ⟨j, kv, e1, e2, e3⟩ := LiI.paired_ix at_as m
      rw [e3] at e
      obtain rfl := Option.some.inj e
      obtain ⟨ky, k, x, f1, f2, f3⟩ := made.pairs j b e1
      obtain ⟨qv, g1, g2, g3⟩ := LiI.paired_get same e2
      rw [f1] at g1
      obtain rfl := Option.some.inj g1
      have rk : RelV (kV kv.1) ky := by
        rw [g2]
        exact relV_key f2
      exact ⟨by show 2 ≤ sizeLine; decide, [ky, x], .cons rk (.cons g3 .nil), ⟨_, f3, rfl, _, rfl⟩⟩
    · rw [LiI.putT_off as (pks gs) H m] at e
      exact .inl e
  revert pr J old
  generalize LiI.putT H as (pks gs) = H1
  intro old pr J
  have lies1 : ∀ x ∈ as.map V.ref, ∃ t, x = V.ref t ∧ H1 t = some (.tup [.int (prOf H1 x).1, .int (prOf H1 x).2]) := fun x m => by
    obtain ⟨t, mt, rfl⟩ := List.mem_map.mp m
    obtain ⟨i, e⟩ := List.mem_iff_getElem?.mp mt
    obtain ⟨g, eg⟩ := at_some (l := gs) (i := i) (by rw [← pr.len]; exact at_lt e)
    have et := pr.at' i t g e eg
    exact ⟨t, rfl, by rw [prOf_is et]; exact et⟩
  have known : ∀ {x : V} {u : Value}, x ∈ as.map V.ref → RelV x u → asOurs u = x := fun {x u} m e => by
    have ⟨t, ex, _⟩ := lies1 x m
    subst ex
    exact congrArg asOurs e
  refine go _ h' tk H1 (as.map V.ref) _ (LiI.vals_refs as) (by rw [List.length_map, la]; exact few) J (SrtO.swo_lex fun u => prOf H1 (asOurs u)) (fun s' l two J2 free => ?_) fun P l hP perm up free => ?_
  · refine SrtO.pairs_sortableO (k := fun u => prOf H1 (asOurs u)) (Nat.lt_of_lt_of_le Nat.two_pos two) (fun u m => ?_) fun o at_l => ?_
    · obtain ⟨t, mt, rfl⟩ := List.mem_map.mp m
      obtain ⟨t2, e2, ht⟩ := lies1 (.ref t) (List.mem_map_of_mem mt)
      obtain rfl := V.ref.inj e2
      have apart : t ≠ l := fun e => by rw [e, free] at ht; cases ht
      have ⟨_, vs, rv, o, at_t, is_tup, n, data⟩ := J2.hok t _ ((upd_ne apart).trans ht)
      rw [show asOurs (.ref t) = V.ref t from rfl]
      cases rv with | cons e1 rv => cases rv with | cons e2 rv => cases rv; exact e1.elim fun t1 e1 => e2.elim fun t2 e2 => ⟨t, o, t1, t2, n, rfl, at_t, is_tup, by rw [data, e1, e2]⟩
    · have ⟨_, vs, e, _, there⟩ := J2.hok l _ upd_same
      rw [there] at at_l
      cases at_l
      have differ : Value.type "list" ≠ Value.type "tuple" := by decide
      exact differ
  · have sorts : SrtO.Srtd (ltP (prOf H1)) (P.map Prod.fst) := by
      rw [SrtO.Srtd, List.pairwise_map] at up ⊢
      refine up.imp_of_mem fun {p p'} m m' h => ?_
      have on := fun {p : V × Value} (m : p ∈ P) => known (perm.mem_iff.mp (List.mem_map_of_mem (f := Prod.fst) m)) (hP p m)
      rw [on m, on m'] at h
      exact h
    have down_ := sorted_down F pr.back sorts perm
    obtain ⟨us, uas, eus⟩ := go_along (f := V.ref) (P := as) ((List.reverse_perm _).trans perm)
    show Q (.ref l) (upd H1 l (.lst (P.map Prod.fst).reverse))
    rw [← eus] at down_ ⊢
    have lay : Same H1 (upd H1 l (.lst (us.map V.ref))) := same_new free
    have lu : us.length = (byAge gs).length := by rw [byAge_length, uas.length_eq, pr.len]
    refine q _ l us (fun b u e => lay b u (old b u e)) (Prs.gs ⟨lu, fun i t g e1 e2 => ?_⟩ upd_same)
    obtain ⟨t2, e3, ht⟩ := lies1 (.ref t) (List.mem_map_of_mem (uas.mem_iff.mp (List.mem_of_getElem? e1)))
    obtain rfl := V.ref.inj e3
    have := congrArg (fun z => z[i]?) down_
    simp only [List.getElem?_map, e1, e2, Option.map_some] at this
    rw [← Option.some.inj this]
    exact lay _ _ ht
end
end El
namespace El
open PySem PySem.Spec PyProof.Rows L2
/-! ### an Inn and, apart from it, the law's own rooms and dict -/
structure Two (C : Addr) (H5 : Hp) (t g x d o so sd : Addr) (n : Nat) (Z BB BS : Addr → Prop) (ts sts : List Addr) (gi gf : List (Int × Int)) (S : List (List Int)) (H8 : Hp) : Prop where
  i : InnAt C H8 BB x d o ts gi (settle gi)
  r : RmsAt H8 BS so sts S
  e : S.map down = settle gf
  dd : H8 sd = some (.dK (pks gf))
  bs : ∀ b, BB b → ¬ BS b ∧ b ≠ sd ∧ ¬ Z b
  b5 : ∀ b, BB b → H5 b = none
  ss : ∀ b, BS b → b ≠ sd ∧ ¬ Z b
  s5 : ∀ b, BS b → H5 b = none
  zl : ∀ b, Z b → ∃ v, H8 b = some v
  z5 : ∀ b, Z b → H5 b = none
  zs : ¬ Z sd
  d5 : H5 sd = none
  k : Kp (Off t g) H5 H8
  v : ∀ b, H8 b = none → H5 b = none
  deck : Deck H8 t g n
  off : ∀ b, H5 b = none → Off t g b
section
variable {C : Addr} {H5 H8 H9 : Hp} {t g x d o so sd : Addr} {n m : Nat} {Z BB BS : Addr → Prop} {ts sts : List Addr} {gi gf : List (Int × Int)} {S : List (List Int)}
theorem Two.more (h : Two C H5 t g x d o so sd n Z BB BS ts sts gi gf S H8) (k : n ≤ m) : Two C H5 t g x d o so sd m Z BB BS ts sts gi gf S H8 :=
  { h with deck := h.deck.more k }
theorem Two.same (h : Two C H5 t g x d o so sd n Z BB BS ts sts gi gf S H8) (s : Same H8 H9) : Two C H5 t g x d o so sd n Z BB BS ts sts gi gf S H9 :=
  { h with i := h.i.same s, r := h.r.same s, dd := s _ _ h.dd, zl := fun b z => let ⟨v, e⟩ := h.zl b z; ⟨v, s _ _ e⟩, k := h.k.trans (.of s), v := fun b e => h.v b (s.free e), deck := h.deck.same s }
theorem Two.draw (h : Two C H5 t g x d o so sd n Z BB BS ts sts gi gf S H8) (k : Kp (Off t g) H8 H9) (D : Deck H9 t g m) : Two C H5 t g x d o so sd m Z BB BS ts sts gi gf S H9 :=
  { h with i := h.i.keep (k.weak fun b hb => h.off b (h.b5 b hb)), r := h.r.keep (k.weak fun b hb => h.off b (h.s5 b hb)), dd := k _ _ (h.off _ h.d5) h.dd, zl := fun b z => let ⟨v, e⟩ := h.zl b z; ⟨v, k _ _ (h.off _ (h.z5 b z)) e⟩, k := h.k.trans k, v := fun b e => h.v b (k.none (D.off e) e), deck := D }
theorem Two.mut {p : Addr} {v : HO} (h : Two C H5 t g x d o so sd n Z BB BS ts sts gi gf S H8) (p1 : ¬ BB p) (p2 : ¬ BS p) (p3 : p ≠ sd) (p4 : H5 p = none) : Two C H5 t g x d o so sd n Z BB BS ts sts gi gf S (upd H8 p v) :=
  ⟨h.i.keep (Kp.mut Kp.refl p1), h.r.keep (Kp.mut Kp.refl p2), h.e, (upd_ne p3.symm).trans h.dd, h.bs, h.b5, h.ss, h.s5, fun b z => by
    by_cases e : b = p
    · exact ⟨v, by rw [e, upd_same]⟩
    · rw [upd_ne e]
      exact h.zl b z, h.z5, h.zs, h.d5, h.k.mutF p4, fun b e => by
    by_cases z : b = p
    · rw [z, upd_same] at e
      cases e
    · rw [upd_ne z] at e
      exact h.v b e, h.deck.mut (h.off p p4), h.off⟩
/-- something more is set apart, all of it new -/
theorem Two.mark {Z' : Addr → Prop} (h : Two C H5 t g x d o so sd n (fun _ => False) BB BS ts sts gi gf S H8) (s : Same H8 H9) (nz : ∀ b, Z' b → H8 b = none) (zl : ∀ b, Z' b → ∃ v, H9 b = some v) :
    Two C H5 t g x d o so sd n Z' (fun b => BB b ∧ ∃ v, H8 b = some v) (fun b => BS b ∧ ∃ v, H8 b = some v) ts sts gi gf S H9 := by
  have dead : ∀ {b : Addr}, H8 b = none → (∃ v, H8 b = some v) → False := fun e z => by
    obtain ⟨v, ev⟩ := z
    rw [e] at ev
    cases ev
  have hs := h.same s
  exact ⟨(h.i.reB (B' := fun b => BB b ∧ ∃ v, H8 b = some v) fun b z hb => ⟨hb, z⟩).same s, (h.r.reL (B' := fun b => BS b ∧ ∃ v, H8 b = some v) fun b z hb => ⟨hb, z⟩).same s, h.e, hs.dd, fun b hb => ⟨fun z => (h.bs b hb.1).1 z.1, (h.bs b hb.1).2.1, fun z => dead (nz b z) hb.2⟩, fun b hb => h.b5 b hb.1, fun b hb => ⟨(h.ss b hb.1).1, fun z => dead (nz b z) hb.2⟩, fun b hb => h.s5 b hb.1, zl, fun b z => h.v b (nz b z), fun z => dead (nz sd z) ⟨_, h.dd⟩, h.d5, hs.k, hs.v, hs.deck, h.off⟩
/-- the law's own rooms have changed, and all that is new is new -/
theorem Two.stand {sts' : List Addr} {gf' : List (Int × Int)} {S' : List (List Int)} (h : Two C H5 t g x d o so sd n Z BB BS ts sts gi gf S H8) (R : RmsAt H9 (fun b => BS b ∨ H8 b = none) so sts' S') (e' : S'.map down = settle gf') (d' : H9 sd = some (.dK (pks gf'))) (ka : Kp (fun b => b ≠ so ∧ b ≠ sd) H8 H9) (va : ∀ b, H9 b = none → H8 b = none) :
    Two C H5 t g x d o so sd n Z (fun b => BB b ∧ ∃ v, H8 b = some v) (fun b => BS b ∨ H8 b = none) ts sts' gi gf' S' H9 ∧ Kp Z H8 H9 := by
  have so5 : H5 so = none := h.s5 so h.r.bo
  have dead : ∀ {b : Addr}, H8 b = none → (∃ v, H8 b = some v) → False := fun e z => by
    obtain ⟨v, ev⟩ := z
    rw [e] at ev
    cases ev
  have kz : Kp Z H8 H9 := ka.weak fun b z => ⟨fun y => (h.ss so h.r.bo).2 (y ▸ z), fun y => h.zs (y ▸ z)⟩
  refine ⟨⟨?_, R, e', d', fun b hb => ⟨fun z => z.elim (h.bs b hb.1).1 fun e => dead e hb.2, (h.bs b hb.1).2⟩, fun b hb => h.b5 b hb.1, fun b hb => ?_, fun b hb => hb.elim (h.s5 b) (h.v b), fun b z => let ⟨v, e⟩ := h.zl b z; ⟨v, kz _ _ z e⟩, h.z5, h.zs, h.d5, ?_, fun b e => h.v b (va b e), h.deck.keep ka ⟨fun z => (h.off so so5).1 z.symm, fun z => (h.off sd h.d5).1 z.symm⟩ ⟨fun z => (h.off so so5).2 z.symm, fun z => (h.off sd h.d5).2 z.symm⟩, h.off⟩, kz⟩
  · exact (h.i.reB (B' := fun b => BB b ∧ ∃ v, H8 b = some v) fun b z hb => ⟨hb, z⟩).keep (ka.weak fun b hb => ⟨fun z => (h.bs b hb.1).1 (z ▸ h.r.bo), (h.bs b hb.1).2.1⟩)
  · rcases hb with hb | e
    · exact h.ss b hb
    · refine ⟨fun z => ?_, fun z => dead e (h.zl b z)⟩
      rw [z, h.dd] at e
      cases e
  · refine fun b u hb e => ka b u ⟨fun z => ?_, fun z => ?_⟩ (h.k b u hb e)
    · rw [z, so5] at e
      cases e
    · rw [z, h.d5] at e
      cases e
/-- the Inn has changed and told a list -/
theorem Two.inn {q : Addr} {us ts' : List Addr} {gi' T : List (Int × Int)} (h : Two C H5 t g x d o so sd n Z BB BS ts sts gi gf S H8) (I : InnAt C H9 (Apart BB H8 q us) x d o ts' gi' (settle gi')) (G : GsAt H9 (fun b => H8 b = none) q us T) (kc : Kp (fun b => ¬ BB b) H8 H9) (vc : ∀ b, H9 b = none → H8 b = none) :
    Two C H5 t g x d o so sd n Z (Apart BB H8 q us) (fun b => BS b ∧ ∃ v, H8 b = some v) ts' sts gi' gf S H9 ∧ Kp Z H8 H9 ∧ GsAt H9 (fun b => ¬ Apart BB H8 q us b ∧ ¬ (BS b ∧ ∃ v, H8 b = some v) ∧ b ≠ sd ∧ ¬ Z b ∧ H5 b = none) q us T := by
  have dead : ∀ {b : Addr}, H8 b = none → (∃ v, H8 b = some v) → False := fun e z => by
    obtain ⟨v, ev⟩ := z
    rw [e] at ev
    cases ev
  have kz : Kp Z H8 H9 := kc.weak fun b z y => (h.bs b y).2.2 z
  have nsd : ∀ {b : Addr}, H8 b = none → b ≠ sd := fun e z => by rw [z, h.dd] at e; cases e
  refine ⟨⟨I, (h.r.reL (B' := fun b => BS b ∧ ∃ v, H8 b = some v) fun b z hb => ⟨hb, z⟩).keep (kc.weak fun b hb y => (h.bs b y).1 hb.1), h.e, kc _ _ (fun y => (h.bs sd y).2.1 rfl) h.dd, fun b hb => ?_, fun b hb => hb.1.elim (h.b5 b) (h.v b), fun b hb => h.ss b hb.1, fun b hb => h.s5 b hb.1, fun b z => let ⟨v, e⟩ := h.zl b z; ⟨v, kz _ _ z e⟩, h.z5, h.zs, h.d5, fun b u hb e => kc b u (fun y => ?_) (h.k b u hb e), fun b e => h.v b (vc b e), h.deck.keep kc (fun y => (h.off t (h.b5 t y)).1 rfl) (fun y => (h.off g (h.b5 g y)).2 rfl), h.off⟩, kz, ?_⟩
  · rcases hb.1 with y | e
    · exact ⟨fun z => (h.bs b y).1 z.1, (h.bs b y).2⟩
    · exact ⟨fun z => dead e z.2, nsd e, fun z => dead e (h.zl b z)⟩
  · rw [h.b5 b y] at e
    cases e
  · exact G.reB fun b m e => ⟨fun z => m.elim z.2.1 z.2.2, fun z => dead e z.2, nsd e, fun z => dead e (h.zl b z), h.v b e⟩
end
theorem settle_down {gs : List (Int × Int)} (F : Fit gs) : (settle gs).map down = settle gs := by
  have h : ∀ r ∈ settle gs, down r = r := fun r m => (down_is (.refl _) (settle_fine F m).1).symm
  rw [List.map_congr_left h, List.map_id']
theorem butA_map (gs : List (Int × Int)) (a : Int) : (butA gs a).map (·.1) = (gs.map (·.1)).filter fun z => decide (z ≠ a) := by
  unfold butA
  rw [List.filter_map]
  rfl
theorem butA_erase {gs : List (Int × Int)} (F : Fit gs) {L : List Int} {a : Int} {k : Nat} (p : L.Perm (gs.map (·.1))) (e : L[k]? = some a) : (L.eraseIdx k).Perm ((butA gs a).map (·.1)) := by
  have nd : L.Nodup := p.nodup_iff.mpr F.nd
  rw [← erase_at nd e, butA_map, nd.erase_eq_filter]
  refine List.Perm.trans (List.Perm.of_eq (List.filter_congr fun z _ => ?_)) (p.filter _)
  by_cases h : z = a <;> simp [h]
theorem goF_len : ∀ (k : Nat) (gs : List (Int × Int)) (rs : List (List Int)) (n : Nat), (goF k gs rs n).length ≤ k
  | 0, _, _, _ => Nat.le_refl _
  | k + 1, gs, rs, n => by
    rw [goF]
    split
    · exact Nat.zero_le _
    · exact Nat.succ_le_succ (goF_len k _ _ _)
theorem goT_len (gs : List (Int × Int)) (a : Int) : (goT gs a).length ≤ gs.length := by
  refine Nat.le_trans (goF_len _ _ _ _) ?_
  have := settleL_len (byAge gs)
  rw [byAge_length] at this
  exact this
end El
namespace El
open PySem PySem.Spec PyProof.Rows L2
/-! ### two Inns, and the law's own rooms and dict, each apart from the others -/
theorem GsAt.fre {H8 H9 : Hp} {F F' : Addr → Prop} {a : Addr} {ts : List Addr} {gs : List (Int × Int)} (h : GsAt H8 F a ts gs) (k : Kp F H8 H9) (up : ∀ b, (∃ v, H8 b = some v) → F b → F' b) : GsAt H9 F' a ts gs :=
  (h.reB (B' := fun b => F b ∧ ∃ v, H8 b = some v) fun b m hb => ⟨hb, h.there b m⟩).keep (k.weak fun b z => z.1) |>.weaken fun b z => up b z.2 z.1
theorem GsAt.offDeck {H : Hp} {B : Addr → Prop} {a t g : Addr} {n : Nat} {ts : List Addr} {gs : List (Int × Int)} (G : GsAt H B a ts gs) (D : Deck H t g n) (ha : Off t g a) : GsAt H (Off t g) a ts gs := by
  obtain ⟨xs, c, e, e1, e2, _⟩ := D.ex
  refine G.reB fun b m _ => ?_
  rcases m with m | m
  · exact m ▸ ha
  · obtain ⟨i, ei⟩ := List.mem_iff_getElem?.mp m
    have hl := at_lt ei
    rw [G.len] at hl
    obtain ⟨y, ey⟩ := at_some hl
    have h1 := G.at' i b y ei ey
    refine ⟨fun z => ?_, fun z => ?_⟩
    · rw [z] at h1
      simp [h1] at e1
    · rw [z] at h1
      simp [h1] at e2
structure Twn (C : Addr) (H5 : Hp) (t g x d o x2 d2 o2 so sd : Addr) (n : Nat) (Z BB BS : Addr → Prop) (ts ts2 sts : List Addr) (gi g2 gf : List (Int × Int)) (S : List (List Int)) (H8 : Hp) : Prop where
  w : Two C H5 t g x d o so sd n Z BB BS ts sts gi gf S H8
  u : InnAt C H8 Z x2 d2 o2 ts2 g2 (settle g2)
section
variable {C : Addr} {H5 H8 H9 : Hp} {t g x d o x2 d2 o2 so sd : Addr} {n m : Nat} {Z BB BS : Addr → Prop} {ts ts2 sts : List Addr} {gi g2 gf : List (Int × Int)} {S : List (List Int)}
theorem Twn.more (h : Twn C H5 t g x d o x2 d2 o2 so sd n Z BB BS ts ts2 sts gi g2 gf S H8) (k : n ≤ m) : Twn C H5 t g x d o x2 d2 o2 so sd m Z BB BS ts ts2 sts gi g2 gf S H8 := ⟨h.w.more k, h.u⟩
theorem Twn.same (h : Twn C H5 t g x d o x2 d2 o2 so sd n Z BB BS ts ts2 sts gi g2 gf S H8) (s : Same H8 H9) : Twn C H5 t g x d o x2 d2 o2 so sd n Z BB BS ts ts2 sts gi g2 gf S H9 := ⟨h.w.same s, h.u.same s⟩
theorem Twn.draw (h : Twn C H5 t g x d o x2 d2 o2 so sd n Z BB BS ts ts2 sts gi g2 gf S H8) (k : Kp (Off t g) H8 H9) (D : Deck H9 t g m) : Twn C H5 t g x d o x2 d2 o2 so sd m Z BB BS ts ts2 sts gi g2 gf S H9 :=
  ⟨h.w.draw k D, h.u.keep (k.weak fun b hb => h.w.off b (h.w.z5 b hb))⟩
theorem Twn.mut {p : Addr} {v : HO} (h : Twn C H5 t g x d o x2 d2 o2 so sd n Z BB BS ts ts2 sts gi g2 gf S H8) (f : ¬ BB p ∧ ¬ BS p ∧ p ≠ sd ∧ ¬ Z p ∧ H5 p = none) : Twn C H5 t g x d o x2 d2 o2 so sd n Z BB BS ts ts2 sts gi g2 gf S (upd H8 p v) :=
  ⟨h.w.mut f.1 f.2.1 f.2.2.1 f.2.2.2.2, h.u.keep (Kp.mut Kp.refl f.2.2.2.1)⟩
theorem Twn.stand {sts' : List Addr} {gf' : List (Int × Int)} {S' : List (List Int)} (h : Twn C H5 t g x d o x2 d2 o2 so sd n Z BB BS ts ts2 sts gi g2 gf S H8) (R : RmsAt H9 (fun b => BS b ∨ H8 b = none) so sts' S') (e' : S'.map down = settle gf') (d' : H9 sd = some (.dK (pks gf'))) (ka : Kp (fun b => b ≠ so ∧ b ≠ sd) H8 H9) (va : ∀ b, H9 b = none → H8 b = none) :
    Twn C H5 t g x d o x2 d2 o2 so sd n Z (fun b => BB b ∧ ∃ v, H8 b = some v) (fun b => BS b ∨ H8 b = none) ts ts2 sts' gi g2 gf' S' H9 :=
  let ⟨W, kz⟩ := h.w.stand R e' d' ka va
  ⟨W, h.u.keep kz⟩
theorem Twn.inn {q : Addr} {us ts' : List Addr} {gi' T : List (Int × Int)} (h : Twn C H5 t g x d o x2 d2 o2 so sd n Z BB BS ts ts2 sts gi g2 gf S H8) (I : InnAt C H9 (Apart BB H8 q us) x d o ts' gi' (settle gi')) (G : GsAt H9 (fun b => H8 b = none) q us T) (kc : Kp (fun b => ¬ BB b) H8 H9) (vc : ∀ b, H9 b = none → H8 b = none) :
    Twn C H5 t g x d o x2 d2 o2 so sd n Z (Apart BB H8 q us) (fun b => BS b ∧ ∃ v, H8 b = some v) ts' ts2 sts gi' g2 gf S H9 ∧ GsAt H9 (fun b => ¬ Apart BB H8 q us b ∧ ¬ (BS b ∧ ∃ v, H8 b = some v) ∧ b ≠ sd ∧ ¬ Z b ∧ H5 b = none) q us T :=
  let ⟨W, kz, Gq⟩ := h.w.inn I G kc vc
  ⟨⟨W, h.u.keep kz⟩, Gq⟩
/-- what was set apart has changed -/
theorem Two.other {Z' : Addr → Prop} (h : Two C H5 t g x d o so sd n Z BB BS ts sts gi gf S H8) (k : Kp (fun b => ¬ Z b) H8 H9) (v : ∀ b, H9 b = none → H8 b = none) (hz : ∀ b, Z' b → (Z b ∨ H8 b = none) ∧ ∃ u, H9 b = some u) :
    Two C H5 t g x d o so sd n Z' (fun b => BB b ∧ ∃ v, H8 b = some v) (fun b => BS b ∧ ∃ v, H8 b = some v) ts sts gi gf S H9 := by
  have dead : ∀ {b : Addr}, H8 b = none → (∃ v, H8 b = some v) → False := fun e z => by
    obtain ⟨v, ev⟩ := z
    rw [e] at ev
    cases ev
  refine ⟨(h.i.reB (B' := fun b => BB b ∧ ∃ v, H8 b = some v) fun b z hb => ⟨hb, z⟩).keep (k.weak fun b hb => (h.bs b hb.1).2.2), (h.r.reL (B' := fun b => BS b ∧ ∃ v, H8 b = some v) fun b z hb => ⟨hb, z⟩).keep (k.weak fun b hb => (h.ss b hb.1).2), h.e, k _ _ h.zs h.dd, fun b hb => ⟨fun z => (h.bs b hb.1).1 z.1, (h.bs b hb.1).2.1, fun z => (hz b z).1.elim (h.bs b hb.1).2.2 fun e => dead e hb.2⟩, fun b hb => h.b5 b hb.1, fun b hb => ⟨(h.ss b hb.1).1, fun z => (hz b z).1.elim (h.ss b hb.1).2 fun e => dead e hb.2⟩, fun b hb => h.s5 b hb.1, fun b z => (hz b z).2, fun b z => (hz b z).1.elim (h.z5 b) (h.v b), fun z => (hz sd z).1.elim h.zs fun e => dead e ⟨_, h.dd⟩, h.d5, fun b u hb e => k b u (fun z => ?_) (h.k b u hb e), fun b e => h.v b (v b e), h.deck.keep k (fun z => (h.off t (h.z5 t z)).1 rfl) (fun z => (h.off g (h.z5 g z)).2 rfl), h.off⟩
  rw [h.z5 b z] at e
  cases e
/-- the other Inn has changed and told a list -/
theorem Twn.twin {q : Addr} {us ts' : List Addr} {g2' : List (Int × Int)} (h : Twn C H5 t g x d o x2 d2 o2 so sd n Z BB BS ts ts2 sts gi g2 gf S H8) (I : InnAt C H9 (Apart Z H8 q us) x2 d2 o2 ts' g2' (settle g2')) (kc : Kp (fun b => ¬ Z b) H8 H9) (vc : ∀ b, H9 b = none → H8 b = none) :
    Twn C H5 t g x d o x2 d2 o2 so sd n (fun b => Apart Z H8 q us b ∧ ∃ v, H9 b = some v) (fun b => BB b ∧ ∃ v, H8 b = some v) (fun b => BS b ∧ ∃ v, H8 b = some v) ts ts' sts gi g2' gf S H9 ∧
      (∀ b, (∃ v, H8 b = some v) → (¬ BB b ∧ ¬ BS b ∧ b ≠ sd ∧ ¬ Z b ∧ H5 b = none) → ¬ (BB b ∧ ∃ v, H8 b = some v) ∧ ¬ (BS b ∧ ∃ v, H8 b = some v) ∧ b ≠ sd ∧ ¬ (Apart Z H8 q us b ∧ ∃ v, H9 b = some v) ∧ H5 b = none) := by
  refine ⟨⟨h.w.other kc vc fun b z => ⟨z.1.1, z.2⟩, I.reB fun b z hb => ⟨hb, z⟩⟩, fun b ⟨v, e⟩ f => ⟨fun z => f.1 z.1, fun z => f.2.1 z.1, f.2.2.1, fun z => z.1.1.elim f.2.2.2.1 fun y => ?_, f.2.2.2.2⟩⟩
  rw [y] at e
  cases e
end
end El
namespace El
open PySem PySem.Spec PyProof.Rows L2
/-- two lists of pairs, one behind the other -/
theorem GsAt.both {H : Hp} {F : Addr → Prop} {a b l : Addr} {ts us : List Addr} {gs hs : List (Int × Int)} (h1 : GsAt H F a ts gs) (h2 : GsAt H F b us hs) (e : H l = some (.lst (ts.map V.ref ++ us.map V.ref))) (fl : F l) : GsAt H F l (ts ++ us) (gs ++ hs) := by
  refine ⟨by rw [List.map_append]; exact e, fl, by rw [List.length_append, List.length_append, h1.len, h2.len], fun i t g e1 e2 => ?_, fun t m => (List.mem_append.mp m).elim (h1.b t) (h2.b t)⟩
  rcases Nat.lt_or_ge i ts.length with hi | hi
  · rw [List.getElem?_append_left hi] at e1
    rw [List.getElem?_append_left (h1.len ▸ hi)] at e2
    exact h1.at' i t g e1 e2
  · rw [List.getElem?_append_right hi] at e1
    rw [List.getElem?_append_right (h1.len ▸ hi), ← h1.len] at e2
    exact h2.at' _ t g e1 e2
end El
namespace El
open PySem PySem.Spec PyProof.Rows L2
/-! ### one Inn, and what is set apart from it -/
structure One (C : Addr) (H5 : Hp) (t g x d o : Addr) (n : Nat) (Z BB : Addr → Prop) (ts : List Addr) (gi : List (Int × Int)) (H8 : Hp) : Prop where
  i : InnAt C H8 BB x d o ts gi (settle gi)
  bz : ∀ b, BB b → ¬ Z b
  b5 : ∀ b, BB b → H5 b = none
  zl : ∀ b, Z b → ∃ v, H8 b = some v
  z5 : ∀ b, Z b → H5 b = none
  k : Kp (Off t g) H5 H8
  v : ∀ b, H8 b = none → H5 b = none
  deck : Deck H8 t g n
  off : ∀ b, H5 b = none → Off t g b
theorem dead_live {H : Hp} {b : Addr} (e : H b = none) (z : ∃ v, H b = some v) : False := by
  obtain ⟨v, ev⟩ := z
  rw [e] at ev
  cases ev
section
variable {C : Addr} {H5 H8 H9 : Hp} {t g x d o : Addr} {n m : Nat} {Z BB : Addr → Prop} {ts : List Addr} {gi : List (Int × Int)}
theorem One.more (h : One C H5 t g x d o n Z BB ts gi H8) (k : n ≤ m) : One C H5 t g x d o m Z BB ts gi H8 := { h with deck := h.deck.more k }
theorem One.free (h : One C H5 t g x d o n Z BB ts gi H8) : One C H5 t g x d o n (fun _ => False) BB ts gi H8 := ⟨h.i, fun _ _ z => z, h.b5, fun _ z => z.elim, fun _ z => z.elim, h.k, h.v, h.deck, h.off⟩
theorem One.same (h : One C H5 t g x d o n Z BB ts gi H8) (s : Same H8 H9) : One C H5 t g x d o n Z BB ts gi H9 :=
  { h with i := h.i.same s, zl := fun b z => let ⟨v, e⟩ := h.zl b z; ⟨v, s _ _ e⟩, k := h.k.trans (.of s), v := fun b e => h.v b (s.free e), deck := h.deck.same s }
theorem One.draw (h : One C H5 t g x d o n Z BB ts gi H8) (k : Kp (Off t g) H8 H9) (D : Deck H9 t g m) : One C H5 t g x d o m Z BB ts gi H9 ∧ Kp Z H8 H9 :=
  have kz : Kp Z H8 H9 := k.weak fun b z => h.off _ (h.z5 b z)
  ⟨{ h with i := h.i.keep (k.weak fun b hb => h.off b (h.b5 b hb)), zl := fun b z => let ⟨v, e⟩ := h.zl b z; ⟨v, kz _ _ z e⟩, k := h.k.trans k, v := fun b e => h.v b (k.none (D.off e) e), deck := D }, kz⟩
theorem One.mut {p : Addr} {v : HO} (h : One C H5 t g x d o n Z BB ts gi H8) (p1 : ¬ BB p) (p4 : H5 p = none) : One C H5 t g x d o n Z BB ts gi (upd H8 p v) :=
  ⟨h.i.keep (Kp.mut Kp.refl p1), h.bz, h.b5, fun b z => by
    by_cases e : b = p
    · exact ⟨v, by rw [e, upd_same]⟩
    · rw [upd_ne e]
      exact h.zl b z, h.z5, h.k.mutF p4, fun b e => by
    by_cases z : b = p
    · rw [z, upd_same] at e
      cases e
    · rw [upd_ne z] at e
      exact h.v b e, h.deck.mut (h.off p p4), h.off⟩
/-- something else is set apart, all of it new -/
theorem One.mark {Z' : Addr → Prop} (h : One C H5 t g x d o n Z BB ts gi H8) (s : Same H8 H9) (nz : ∀ b, Z' b → H8 b = none) (zl : ∀ b, Z' b → ∃ v, H9 b = some v) : One C H5 t g x d o n Z' (fun b => BB b ∧ ∃ v, H8 b = some v) ts gi H9 := by
  have hs := h.same s
  exact ⟨(h.i.reB (B' := fun b => BB b ∧ ∃ v, H8 b = some v) fun b z hb => ⟨hb, z⟩).same s, fun b hb z => dead_live (nz b z) hb.2, fun b hb => h.b5 b hb.1, zl, fun b z => h.v b (nz b z), hs.k, hs.v, hs.deck, h.off⟩
theorem One.inn {q : Addr} {us ts' : List Addr} {gi' T : List (Int × Int)} (h : One C H5 t g x d o n Z BB ts gi H8) (I : InnAt C H9 (Apart BB H8 q us) x d o ts' gi' (settle gi')) (G : GsAt H9 (fun b => H8 b = none) q us T) (kc : Kp (fun b => ¬ BB b) H8 H9) (vc : ∀ b, H9 b = none → H8 b = none) :
    One C H5 t g x d o n Z (Apart BB H8 q us) ts' gi' H9 ∧ Kp Z H8 H9 ∧ GsAt H9 (fun b => ¬ Apart BB H8 q us b ∧ ¬ Z b ∧ H5 b = none) q us T := by
  have kz : Kp Z H8 H9 := kc.weak fun b z y => h.bz b y z
  refine ⟨⟨I, fun b hb => ?_, fun b hb => hb.1.elim (h.b5 b) (h.v b), fun b z => let ⟨v, e⟩ := h.zl b z; ⟨v, kz _ _ z e⟩, h.z5, fun b u hb e => kc b u (fun y => ?_) (h.k b u hb e), fun b e => h.v b (vc b e), h.deck.keep kc (fun y => (h.off t (h.b5 t y)).1 rfl) (fun y => (h.off g (h.b5 g y)).2 rfl), h.off⟩, kz, ?_⟩
  · rcases hb.1 with y | e
    · exact h.bz b y
    · exact fun z => dead_live e (h.zl b z)
  · rw [h.b5 b y] at e
    cases e
  · exact G.reB fun b m e => ⟨fun z => m.elim z.2.1 z.2.2, fun z => dead_live e (h.zl b z), h.v b e⟩
end
/-- the guests and the rooms in a tuple -/
structure Thr (H : Hp) (Z : Addr → Prop) (th : Addr) (gs : List (Int × Int)) (rs : List (List Int)) : Prop where
  ex : ∃ (p1 p2 : Addr) (us1 us2 : List Addr), H th = some (.tup [.ref p1, .ref p2]) ∧ GsAt H Z p1 us1 gs ∧ RmsAt H Z p2 us2 rs
  z : Z th
theorem Thr.keep {H H' : Hp} {Z : Addr → Prop} {th : Addr} {gs : List (Int × Int)} {rs : List (List Int)} (h : Thr H Z th gs rs) (k : Kp Z H H') : Thr H' Z th gs rs :=
  let ⟨p1, p2, us1, us2, e, G, R⟩ := h.ex
  ⟨⟨p1, p2, us1, us2, k _ _ h.z e, G.keep k, R.keep k⟩, h.z⟩
def dThr (gs : List (Int × Int)) (rs : List (List Int)) : PyData := .tuple [dGs gs, dRows rs]
theorem Oks.thr (gs : List (Int × Int)) (rs : List (List Int)) : Oks 3 (dThr gs rs) := .tup fun x m => by
  rcases List.mem_cons.mp m with rfl | m
  · exact .gs gs
  · rw [List.mem_singleton.mp m]
    exact .rows rs
theorem Thr.dp {K : PySem.W.Frag} {H : Hp} {Z : Addr → Prop} {th : Addr} {gs : List (Int × Int)} {rs : List (List Int)} (h : Thr H Z th gs rs) : Dp K H (.ref th) (dThr gs rs) :=
  let ⟨_, _, _, _, e, G, R⟩ := h.ex
  .tup (SqT.of e) (.cons G.dp (.cons R.dp .nil))
end El
namespace El
open PySem PySem.Spec PyProof.Rows L2
/-! ### one Inn, who is away and who is there -/
section
variable {C : Addr} {H5 H8 H9 : Hp} {t g x d o : Addr} {n : Nat} {Z BB : Addr → Prop} {ts : List Addr} {gi : List (Int × Int)}
/-- more is set apart, all of it new -/
theorem One.grow {Z' : Addr → Prop} (h : One C H5 t g x d o n Z BB ts gi H8) (s : Same H8 H9) (nz : ∀ b, Z' b → H8 b = none) (zl : ∀ b, Z' b → ∃ v, H9 b = some v) : One C H5 t g x d o n (fun b => Z b ∨ Z' b) (fun b => BB b ∧ ∃ v, H8 b = some v) ts gi H9 := by
  have hs := h.same s
  exact ⟨(h.i.reB (B' := fun b => BB b ∧ ∃ v, H8 b = some v) fun b z hb => ⟨hb, z⟩).same s, fun b hb z => z.elim (h.bz b hb.1) fun z => dead_live (nz b z) hb.2, fun b hb => h.b5 b hb.1, fun b z => z.elim (fun z => let ⟨v, e⟩ := h.zl b z; ⟨v, s _ _ e⟩) (zl b), fun b z => z.elim (h.z5 b) fun z => h.v b (nz b z), hs.k, hs.v, hs.deck, h.off⟩
end
theorem GsAt.far {H : Hp} {B : Addr → Prop} {a p : Addr} {ts : List Addr} {gs : List (Int × Int)} {ys : List V} (h : GsAt H B a ts gs) (hp : H p = some (.lst ys)) (ne : a ≠ p) : ∀ b, (b = a ∨ b ∈ ts) → b ≠ p := fun b m z => by
  rcases m with m | m
  · exact ne (m ▸ z)
  · obtain ⟨i, e⟩ := List.mem_iff_getElem?.mp m
    have hl := at_lt e
    rw [h.len] at hl
    obtain ⟨g, eg⟩ := at_some hl
    have e1 := h.at' i b g e eg
    rw [z, hp] at e1
    cases e1
theorem GsAt.cut {H : Hp} {B : Addr → Prop} {a : Addr} {ts : List Addr} {gs : List (Int × Int)} (h : GsAt H B a ts gs) (j : Nat) : GsAt (upd H a (.lst ((ts.map V.ref).eraseIdx j))) B a (ts.eraseIdx j) (gs.eraseIdx j) := by
  refine ⟨by rw [upd_same, map_erase0'], h.ba, by rw [List.length_eraseIdx, List.length_eraseIdx, h.len], fun i t g e1 e2 => ?_, fun t m => h.b t (List.mem_of_mem_eraseIdx m)⟩
  have ta : t ≠ a := fun z => h.offTs (z ▸ List.mem_of_mem_eraseIdx (List.mem_of_getElem? e1))
  rw [upd_ne ta]
  rw [List.getElem?_eraseIdx] at e1 e2
  by_cases hi : i < j
  · rw [if_pos hi] at e1 e2
    exact h.at' i t g e1 e2
  · rw [if_neg hi] at e1 e2
    exact h.at' _ t g e1 e2
theorem GsAt.beside {H : Hp} {B : Addr → Prop} {a p : Addr} {ts : List Addr} {gs : List (Int × Int)} {ys : List V} {v : HO} (h : GsAt H B a ts gs) (hp : H p = some (.lst ys)) (ne : a ≠ p) : GsAt (upd H p v) B a ts gs := h.newTop' (h.far hp ne) fun b u hb e => by
  rw [upd_ne hb]
  exact e
section
variable {C : Addr} {H5 H8 : Hp} {t g x d o p q : Addr} {n : Nat} {Z BB : Addr → Prop} {ts w1 w2 : List Addr} {gi g1 g2 : List (Int × Int)}
/-- one of the first list goes over into the second -/
theorem One.moved (W : One C H5 t g x d o n Z BB ts gi H8) (G1 : GsAt H8 Z p w1 g1) (G2 : GsAt H8 Z q w2 g2) (ne : p ≠ q) (j : Nat) (y : Int × Int) {tt : Addr} (nt : upd H8 p (.lst ((w1.map V.ref).eraseIdx j)) tt = none) :
    ∃ (Z' BB' : Addr → Prop), One C H5 t g x d o n Z' BB' ts gi (upd (upd (upd H8 p (.lst ((w1.map V.ref).eraseIdx j))) tt (.tup [.int y.1, .int y.2])) q (.lst (w2.map V.ref ++ [.ref tt]))) ∧
      GsAt (upd (upd (upd H8 p (.lst ((w1.map V.ref).eraseIdx j))) tt (.tup [.int y.1, .int y.2])) q (.lst (w2.map V.ref ++ [.ref tt]))) Z' p (w1.eraseIdx j) (g1.eraseIdx j) ∧
      GsAt (upd (upd (upd H8 p (.lst ((w1.map V.ref).eraseIdx j))) tt (.tup [.int y.1, .int y.2])) q (.lst (w2.map V.ref ++ [.ref tt]))) Z' q (w2 ++ [tt]) (g2 ++ [y]) ∧
      (∀ b, Z b → Z' b) ∧ Kp (fun b => b ≠ p ∧ b ≠ q) H8 (upd (upd (upd H8 p (.lst ((w1.map V.ref).eraseIdx j))) tt (.tup [.int y.1, .int y.2])) q (.lst (w2.map V.ref ++ [.ref tt]))) := by
  have W1 : One C H5 t g x d o n Z BB ts gi (upd H8 p (.lst ((w1.map V.ref).eraseIdx j))) := W.mut (fun hb => W.bz p hb G1.ba) (W.z5 p G1.ba)
  have A1 := G1.cut j
  have A2 : GsAt (upd H8 p (.lst ((w1.map V.ref).eraseIdx j))) Z q w2 g2 := G2.beside G1.top ne.symm
  have k1 : Kp (fun b => b ≠ p ∧ b ≠ q) H8 (upd H8 p (.lst ((w1.map V.ref).eraseIdx j))) := fun b u hb e => by
    rw [upd_ne hb.1]
    exact e
  revert W1 A1 A2 k1 nt
  generalize upd H8 p (.lst ((w1.map V.ref).eraseIdx j)) = Ha
  intro nt W1 A1 A2 k1
  have st := same_new (o := .tup [.int y.1, .int y.2]) nt
  have W2 := W1.grow (Z' := fun b => b = tt) st (fun b z => z ▸ nt) fun b z => ⟨.tup [.int y.1, .int y.2], by rw [z, upd_same]⟩
  have B1 := (A1.same st).weaken (B' := fun b => Z b ∨ b = tt) fun b z => .inl z
  have B2 := (A2.same st).weaken (B' := fun b => Z b ∨ b = tt) fun b z => .inl z
  have et : upd Ha tt (.tup [.int y.1, .int y.2]) tt = some (.tup [.int y.1, .int y.2]) := upd_same
  have k2 := k1.trans (Kp.of st)
  revert W2 B1 B2 et k2
  generalize upd Ha tt (.tup [.int y.1, .int y.2]) = Hb
  intro W2 B1 B2 et k2
  refine ⟨_, _, W2.mut (fun hb => W2.bz q hb B2.ba) (W2.z5 q B2.ba), B1.beside B2.top ne, B2.push B2.offTs et (.inr rfl), fun b z => .inl z, fun b u hb e => ?_⟩
  rw [upd_ne hb.2]
  exact k2 b u hb e
end
theorem cut_perm {α : Type} {l : List α} {k : Nat} {y : α} (e : l[k]? = some y) : (y :: l.eraseIdx k).Perm l := erase_perm e
theorem come_perm {ga gt gf : List (Int × Int)} {k : Nat} {y : Int × Int} (e : ga[k]? = some y) (p : (ga ++ gt).Perm gf) : (ga.eraseIdx k ++ (gt ++ [y])).Perm gf := by
  refine List.Perm.trans ?_ p
  have h1 : (ga.eraseIdx k ++ (gt ++ [y])).Perm (y :: (ga.eraseIdx k ++ gt)) := by
    rw [← List.append_assoc]
    exact List.perm_append_comm (l₁ := ga.eraseIdx k ++ gt) (l₂ := [y])
  exact h1.trans ((cut_perm e).append_right gt)
theorem but_perm {gi gt : List (Int × Int)} {k : Nat} {y : Int × Int} (F : Fit gi) (e : gt[k]? = some y) (p : gi.Perm gt) : (butA gi y.1).Perm (gt.eraseIdx k) := by
  have h1 := without_perm F (p.mem_iff.mpr (List.mem_of_getElem? e))
  exact List.Perm.cons_inv ((h1.trans p).trans (cut_perm e).symm)
end El
namespace El
open PySem PySem.Spec PyProof.Rows L2
section
variable {P : Program} {w : World} {K : PySem.W.Frag} {mg : Str → Option Value} {base : Heap}
abbrev s_Inn_turn : Stmt := inClass (topS 8) 3
abbrev N_Inn_turn : List Str := ["self", "age", "patience", "back"]
abbrev P_Inn_turn : List Str := ["self", "age", "patience"]
theorem sc_Inn_turn : FnScope N_Inn_turn P_Inn_turn (defScope s_Inn_turn) := ⟨rfl, rfl, rfl, by decide +kernel, rfl, by decide +kernel, by decide +kernel⟩
/-- what turn tells -/
def turnT (gs : List (Int × Int)) (x : Int × Int) : List (Int × Int) := goT gs x.1 ++ comeT (butA gs x.1) x
theorem Fit.turned {gs : List (Int × Int)} (F : Fit gs) {x : Int × Int} (h0 : 0 ≤ x.2) : Fit (butA gs x.1 ++ [x]) := by
  have F2 := F.without x.1
  refine ⟨?_, fun g m => ?_⟩
  · rw [List.map_append]
    refine List.nodup_append.mpr ⟨F2.nd, by simp, fun a ha b hb => ?_⟩
    rw [List.map_singleton, List.mem_singleton] at hb
    rw [hb]
    obtain ⟨g, hg, rfl⟩ := List.mem_map.mp ha
    exact of_decide_eq_true (List.mem_filter.mp hg).2
  · rcases List.mem_append.mp m with m | m
    · exact F2.pos g m
    · rw [List.mem_singleton.mp m]
      exact h0
theorem butA_len (gs : List (Int × Int)) (a : Int) : (butA gs a).length ≤ gs.length := List.length_filter_le _ _
def sp_Inn_turn (C : Addr) : Sp := fun vs H Q _ => ∃ (B : Addr → Prop) (p d o : Addr) (ts : List Addr) (gs : List (Int × Int)) (x : Int × Int), vs = [.ref p, .int x.1, .int x.2] ∧ InnAt C H B p d o ts gs (settle gs) ∧ Fit gs ∧ x.1 ∈ gs.map (·.1) ∧ 0 ≤ x.2 ∧ gs.length ≤ 399 ∧
  ∀ H' q us ts', InnAt C H' (Apart B H q us) p d o ts' (butA gs x.1 ++ [x]) (settle (butA gs x.1 ++ [x])) → GsAt H' (fun b => H b = none) q us (turnT gs x) → Kp (fun b => ¬ B b) H H' → (∀ b, H' b = none → H b = none) → Q (.ref q) H'
theorem ok_Inn_turn {C : Addr} (A : Ma K C "turn" "Inn.turn" P_Inn_turn s_Inn_turn) (B : Bi mg) (T : InnT K mg C) (M__check_there : Mf P w K mg base 1 C "_check_there" "Inn._check_there" P_Inn__check_there s_Inn__check_there (sp_Inn__check_there C))
    (M_go : Mf P w K mg base 3 C "go" "Inn.go" P_Inn_go s_Inn_go (sp_Inn_go C)) (M_come : Mf P w K mg base 2 C "come" "Inn.come" P_Inn_come s_Inn_come (sp_Inn_come C)) : Mf P w K mg base 4 C "turn" "Inn.turn" P_Inn_turn s_Inn_turn (sp_Inn_turn C) := by
  refine A.mf fun f fd F => F.ok sc_Inn_turn (fun vs H Q E h => ?_) (fun cdv AA outer s H vs Q E hr h => ?_)
  · obtain ⟨_, _, _, _, _, _, _, rfl, _⟩ := h
    rfl
  · obtain ⟨BB, p, d, o, ts, gs, x, rfl, hI, hF, hx, h0, hl, q1⟩ := h
    have nd := sc_Inn_turn.nd
    refine ⟨_, (pss_cons (ps_expr (pe_mf M__check_there T.cl (hr.mono (by decide)) (pv 0) (pa_cons (pv 1) pa_nil)))
    (pss_cons (ps_if (pt_cmpR op_lt (pv 2) pe_int (nomark _)) (pss_one ps_never) pss_nil)
    (pss_cons (ps_set (i := 3) nd rfl (.inl rfl) (pe_mf M_go T.cl (hr.mono (by decide)) (pv 0) (pa_cons (pv 1) pa_nil)))
    (pss_one (ps_ret (pe_op op_cat (pv 3) (pe_mf M_come T.cl (hr.mono (by decide)) (pv 0) (pa_cons (pv 1) (pa_cons (pv 2) pa_nil))))))))), ?_⟩
    obtain ⟨dx, hp⟩ := hI.ob
    refine ⟨_, rfl, p, dx, _, rfl, hp, iflds_no _ _ (by decide +kernel) (by decide +kernel), _, rfl, BB, p, d, o, ts, gs, _, x.1, rfl, hI, hF.nd, hx, ?_⟩
    refine ⟨.int x.2, rfl, _, _, rfl, rfl, _, rfl, ?_⟩
    rw [decide_eq_false (by omega)]
    refine iteF ?_
    refine ⟨_, rfl, p, dx, _, rfl, hp, iflds_no _ _ (by decide +kernel) (by decide +kernel), _, rfl, BB, p, d, o, ts, gs, x.1, rfl, hI, hF, hx, by omega, fun H1 q us ts1 I1 G1 k1 v1 => ?_⟩
    dsimp only [gName]
    obtain ⟨dx1, hp1⟩ := I1.ob
    have l2 := butA_len gs x.1
    refine ⟨_, rfl, _, rfl, p, dx1, _, rfl, hp1, iflds_no _ _ (by decide +kernel) (by decide +kernel), _, rfl, _, rfl, _, p, d, o, ts1, butA gs x.1, x, rfl, I1, hF.turned h0, by omega, fun H2 q2 us2 ts2 I2 G2 k2 v2 => ?_⟩
    have G1' : GsAt H2 (fun b => H b = none ∧ ¬ Apart BB H q us b) q us (goT gs x.1) := (G1.reB fun b m e => ⟨e, fun z => m.elim z.2.1 z.2.2⟩).keep (k2.weak fun b z => z.2)
    have lg := goT_len gs x.1
    have lc := comeT_len (butA gs x.1) x
    refine ⟨q, q2, _, _, rfl, rfl, G1'.top, G2.top, ?_, fun u nu => ?_⟩
    · rw [List.length_map, List.length_map, G1'.len, G2.len]
      exact Nat.le_of_lt (ils (by omega))
    have su := same_new (o := .lst (us.map V.ref ++ us2.map V.ref)) nu
    have gone : ∀ b, H2 b = none → H b = none := fun b e => v1 b (v2 b e)
    have e1 : ∀ b, H1 b = none → H b = none := v1
    refine q1 _ u (us ++ us2) ts2 ?_ ?_ ?_ fun b e => gone b (su.free e)
    · refine (I2.reB (B' := Apart BB H u (us ++ us2)) fun b z hb => ⟨?_, fun y => ?_, fun m => ?_⟩).same su
      · rcases hb.1 with y | y
        · exact y.1
        · exact .inr (v1 b y)
      · obtain ⟨v, ev⟩ := z
        rw [y, nu] at ev
        cases ev
      · rcases List.mem_append.mp m with m | m
        · rcases hb.1 with y | y
          · exact y.2.2 m
          · obtain ⟨v, ev⟩ := G1.there b (.inr m)
            rw [y] at ev
            cases ev
        · exact hb.2.2 m
    · refine ⟨?_, gone u nu, ?_, fun i t g a1 a2 => ?_, fun t m => ?_⟩
      · rw [upd_same, List.map_append]
      · rw [List.length_append, G1.len, G2.len]
        unfold turnT
        rw [List.length_append]
      · unfold turnT at a2
        by_cases hi : i < us.length
        · rw [List.getElem?_append_left hi] at a1
          rw [List.getElem?_append_left (by rw [← G1.len]; exact hi)] at a2
          exact su _ _ (G1'.at' i t g a1 a2)
        · rw [List.getElem?_append_right (by omega)] at a1
          rw [List.getElem?_append_right (by rw [← G1.len]; omega), ← G1.len] at a2
          exact su _ _ (G2.at' _ t g a1 a2)
      · rcases List.mem_append.mp m with m | m
        · exact G1.b t m
        · exact v1 t (G2.b t m)
    · refine (fun b y hb e => su _ _ (k2 b y (fun z => ?_) (k1 b y hb e)) : Kp (fun b => ¬ BB b) H _)
      rcases z.1 with z | z
      · exact hb z
      · rw [z] at e
        cases e
end
end El
namespace El
open PySem PySem.Spec PyProof.Rows L2
section
variable {P : Program} {w : World} {K : PySem.W.Frag} {mg : Str → Option Value} {base : Heap}
abbrev s_Inn_guests : Stmt := inClass (topS 8) 4
abbrev N_Inn_guests : List Str := ["self", "ages", "age"]
abbrev P_Inn_guests : List Str := ["self"]
theorem sc_Inn_guests : FnScope N_Inn_guests P_Inn_guests (defScope s_Inn_guests) := ⟨rfl, rfl, rfl, by decide +kernel, rfl, by decide +kernel, by decide +kernel⟩
def sp_Inn_guests (C : Addr) : Sp := fun vs H Q _ => ∃ (B : Addr → Prop) (p d o : Addr) (ts : List Addr) (gs : List (Int × Int)) (rs : List (List Int)), vs = [.ref p] ∧ InnAt C H B p d o ts gs rs ∧ Fit gs ∧ gs.length ≤ 1000 ∧
  ∀ (H' : Hp) (q : Addr) (us : List Addr), Same H H' → GsAt H' (fun b => H b = none) q us (byAge gs) → Q (.ref q) H'
theorem ok_Inn_guests {C : Addr} (A : Ma K C "guests" "Inn.guests" P_Inn_guests s_Inn_guests) (B : Bi mg) (T : InnT K mg C) : Mf P w K mg base 1 C "guests" "Inn.guests" P_Inn_guests s_Inn_guests (sp_Inn_guests C) := by
  refine A.mf fun f fd F => F.ok sc_Inn_guests (fun vs H Q E h => ?_) (fun cdv AA outer s H vs Q E hr h => ?_)
  · obtain ⟨_, _, _, _, _, _, _, rfl, _⟩ := h
    rfl
  · obtain ⟨BB, p, d, o, ts, gs, rs, rfl, hI, hF, hl, q⟩ := h
    have nd := sc_Inn_guests.nd
    refine ⟨_, (pss_cons (ps_set (i := 1) nd rfl (.inl rfl) (pe_callBK (cr_sortedRevD (b := true) rfl) (by rfl) B.sorted (by decide +kernel) (pa_cons (pe_fld (pv 0) rfl) pa_nil) (pk_cons pe_bl pk_nil)))
    (pss_one (ps_ret (pe_lc (own := [("age", 2)]) (tt := tYes) rfl nd (pi_list (pv 1)) (blkOk_by (N := N_Inn_guests) (sc := defScope s_Inn_guests) (by decide +kernel)) (fun _ _ _ _ _ => (pg_name (i := 2) nd rfl (.inl rfl))) (fun _ _ _ _ _ => pts_nil) (fun _ _ _ _ _ => (pe_tup (pa_cons (pv 2) (pa_cons (pe_dget (hu_of hr) (fldK K (pv 0)) (pv 2) (fun _ _ => rfl)) pa_nil)))))))), ?_⟩
    obtain ⟨dx, hp⟩ := hI.ob
    refine ⟨_, rfl, p, C, dx, _, _, rfl, hp, T.cl, T.nP, iflds_p _ _, d, pks gs, gs.map (·.1), rfl, rfl, .inl hI.dc, pks_keys gs, fun ns u hp2 ho nu => ?_⟩
    have hns : ns = (byAge gs).map (·.1) := ages_of hF hp2 ho
    subst hns
    have s1 : Same H (upd H u (.lst (((byAge gs).map (·.1)).map V.int))) := same_new nu
    have e1 : upd H u (.lst (((byAge gs).map (·.1)).map V.int)) u = some (.lst (((byAge gs).map (·.1)).map V.int)) := upd_same
    revert s1 e1
    generalize upd H u (.lst (((byAge gs).map (·.1)).map V.int)) = H1
    intro s1 e1
    dsimp only [gName]
    have I1 := hI.same s1
    refine ⟨_, rfl, u, rfl, ⟨_, SqL.of e1⟩, fun D nD => ?_⟩
    have nDu : u ≠ D := ne_of_none e1 nD
    have nDH : H D = none := s1.free nD
    refine lc_it (walk_list (xs := ((byAge gs).map (·.1)).map V.int)) (fun k H2 => Same H1 H2 ∧ ∃ us, GsAt H2 (fun b => H b = none) D us ((byAge gs).take k)) ⟨same_new nD, [], upd_same, nDH, rfl, fun i t g e _ => by simp at e, fun t m => by simp at m⟩ (fun k H2 _ hW => SqL.of (hW.1 _ _ e1)) (fun k v H2 H3 hk hW hY => ?_) (fun H2 hW => ?_)
    · obtain ⟨sm, us, G2⟩ := hW
      obtain ⟨rfl, hv⟩ := hY
      obtain ⟨a, ea, rfl⟩ := ints_at hv
      rw [List.getElem?_map] at ea
      obtain ⟨g, eg, rfl⟩ := Option.map_eq_some_iff.mp ea
      have mg : g ∈ gs := (byAge_perm gs).mem_iff.mp (List.mem_of_getElem? eg)
      have I2 := I1.same sm
      obtain ⟨dx2, hp2⟩ := I2.ob
      refine ⟨rfl, .int g.1, rfl, _, rfl, p, C, dx2, _, _, rfl, hp2, T.cl, T.nP, iflds_p _ _, .int g.1, rfl, d, _, rfl, dget_pks I2.dc hF mg, (by show 2 ≤ sizeLine; decide), fun t nt => ?_⟩
      have st := same_new (o := .tup [.int g.1, .int g.2]) nt
      have G3 := (G2.same st).push G2.offTs (g := g) upd_same (s1.free (sm.free nt))
      rw [← take_snoc eg] at G3
      refine ⟨_, (G2.same st).top, ils ?_, Same.mut (sm.trans st) nD, _, G3⟩
      rw [List.length_map, G2.len, List.length_take, byAge_length]
      omega
    · obtain ⟨sm, us, G2⟩ := hW
      rw [List.length_map, List.length_map, List.take_length] at G2
      exact q H2 D us (s1.trans sm) G2
end
end El
namespace El
open PySem PySem.Spec PyProof.Rows L2
section
variable {P : Program} {w : World} {K : PySem.W.Frag} {mg : Str → Option Value} {base : Heap}
abbrev s_Inn___len__ : Stmt := inClass (topS 8) 7
abbrev N_Inn___len__ : List Str := ["self"]
abbrev P_Inn___len__ : List Str := ["self"]
theorem sc_Inn___len__ : FnScope N_Inn___len__ P_Inn___len__ (defScope s_Inn___len__) := ⟨rfl, rfl, rfl, by decide +kernel, rfl, by decide +kernel, by decide +kernel⟩
def sp_Inn___len__ (C : Addr) : Sp := fun vs H Q _ => ∃ (B : Addr → Prop) (p d o : Addr) (ts : List Addr) (gs : List (Int × Int)) (rs : List (List Int)), vs = [.ref p] ∧ InnAt C H B p d o ts gs rs ∧ Q (.int gs.length) H
theorem ok_Inn___len__ {C : Addr} (A : Ma K C "__len__" "Inn.__len__" P_Inn___len__ s_Inn___len__) (B : Bi mg) (T : InnT K mg C) : Mf P w K mg base 1 C "__len__" "Inn.__len__" P_Inn___len__ s_Inn___len__ (sp_Inn___len__ C) := by
  refine A.mf fun f fd F => F.ok sc_Inn___len__ (fun vs H Q E h => ?_) (fun cdv AA outer s H vs Q E hr h => ?_)
  · obtain ⟨_, _, _, _, _, _, _, rfl, _⟩ := h
    rfl
  · obtain ⟨BB, p, d, o, ts, gs, rs, rfl, hI, q⟩ := h
    have nd := sc_Inn___len__.nd
    refine ⟨_, (pss_one (ps_ret (pe_callB call_lenD (by rfl) B.len PySem.boot_len (pa_cons (pe_fld (pv 0) rfl) pa_nil)))), ?_⟩
    obtain ⟨dx, hp⟩ := hI.ob
    refine ⟨_, rfl, p, C, dx, _, _, rfl, hp, T.cl, T.nP, iflds_p _ _, d, _, rfl, hI.dc, ?_⟩
    rw [pks_len]
    exact q
end
end El
namespace El
open PySem PySem.Spec PyProof.Rows L2
/-! ### == of dicts that count guests, alike or not -/
def lkA (gs gs' : List (Int × Int)) : Bool := gs.all fun g => decide (valV (pks gs') (Sum.inl g.1) = some (V.int g.2))
def like (gs gs' : List (Int × Int)) : Bool := (gs.length == gs'.length) && lkA gs gs'
theorem pks_val {gs : List (Int × Int)} {k : L2.Key} {v : V} (h : valV (pks gs) k = some v) : ∃ i, v = .int i := by
  induction gs with
  | nil => cases h
  | cons g gs ih =>
    by_cases c : (Sum.inl g.1 : L2.Key) = k
    · have : valV (pks (g :: gs)) k = some (.int g.2) := by
        subst c
        show valV ((Sum.inl g.1, V.int g.2) :: pks gs) _ = _
        unfold valV
        simp
      rw [this] at h
      exact ⟨_, (Option.some.inj h).symm⟩
    · have : valV (pks (g :: gs)) k = valV (pks gs) k := by
        show valV ((Sum.inl g.1, V.int g.2) :: pks gs) _ = _
        unfold valV
        simp [c]
      rw [this] at h
      exact ih h
theorem hits_like {A : Around} {s : Shared} {gs' : List (Int × Int)} {vb : List (L2.Key × Value)} (rb : KV (pks gs') vb) : ∀ {gs : List (Int × Int)} {va : List (L2.Key × Value)}, KV (pks gs) va → PySem.W.KeqHits A s vb va (lkA gs gs')
  | [], _, ra => by
    cases ra
    exact .nil
  | g :: gs, _, ra => by
    cases ra with
    | @cons p q ps qs h t =>
      obtain ⟨k, v⟩ := q
      obtain ⟨h1, h2⟩ := h
      have h1' : (Sum.inl g.1 : L2.Key) = k := h1
      obtain ⟨tk, rfl⟩ := (show ∃ t, v = Value.int g.2 t from h2)
      subst h1'
      have ih := hits_like (A := A) (s := s) rb (gs := gs) t
      have rr := rb.val (Sum.inl g.1)
      show PySem.W.KeqHits A s vb _ (decide (valV (pks gs') (Sum.inl g.1) = some (V.int g.2)) && lkA gs gs')
      cases e : valV (pks gs') (Sum.inl g.1) with
      | none =>
        rw [e] at rr
        rw [decide_eq_false (by simp), Bool.false_and]
        exact .miss rr.none_of
      | some y =>
        rw [e] at rr
        obtain ⟨u, hu, ru⟩ := rr.some_of
        obtain ⟨i, rfl⟩ := pks_val e
        obtain ⟨tk', rfl⟩ := (show ∃ t, u = Value.int i t from ru)
        have hb := SeqAt.EqAt.int_int (A := A) (s := s) g.2 tk i tk'
        have eb : decide ((some (V.int i)) = some (V.int g.2)) = (g.2 == i) := by
          by_cases z : g.2 = i
          · rw [z, beq_self_eq_true]
            exact decide_eq_true rfl
          · rw [beq_eq_false_iff_ne.mpr z]
            exact decide_eq_false fun y => z (V.int.inj (Option.some.inj y)).symm
        rw [eb]
        exact .hit hu hb ih
section
variable {X : Cx}
def rEqPk : R2 := fun x y H Q => ∃ a b gs gs', x = .ref a ∧ y = .ref b ∧ H a = some (.dK (pks gs)) ∧ H b = some (.dK (pks gs')) ∧ Q (.bl (like gs gs')) H
theorem op_eq_pks (hu : X.A.units < cLine) : OpR X (compareOp .Eq) rEqPk := by
  intro pins s σ H x y v u Q I rx ry h
  obtain ⟨a, b, gs, gs', rfl, rfl, ea, eb, q⟩ := h
  obtain rfl : v = Value.ref a := rx
  obtain rfl : u = Value.ref b := ry
  obtain ⟨_, ya, va, ra, da⟩ := (show ObjOk X.prog X.w H s.heap a (.dK (pks gs)) from I.hok a _ ea)
  obtain ⟨_, yb, vb, rb, db⟩ := (show ObjOk X.prog X.w H s.heap b (.dK (pks gs')) from I.hok b _ eb)
  have l1 : gs.length = va.length := by
    rw [← ra.length]
    exact (pks_len gs).symm
  have l2 : gs'.length = vb.length := by
    rw [← rb.length]
    exact (pks_len gs').symm
  refine PySem.W.keq_eq (knd := mixKind X.prog X.w) (r := lkA gs gs') ya yb da db hu (fun _ => hits_like rb ra) (fin_bl I q ?_)
  unfold like
  rw [l1, l2]
end
theorem like_perm {gs gs' : List (Int × Int)} (nd' : (gs'.map (·.1)).Nodup) (p : gs.Perm gs') : like gs gs' = true := by
  unfold like lkA
  rw [p.length_eq, beq_self_eq_true, Bool.true_and, List.all_eq_true]
  exact fun g m => decide_eq_true (pks_some nd' (p.mem_iff.mp m))
/-- one has a guest that the other has not, or not so patient -/
theorem unlike {gs gs' : List (Int × Int)} {g : Int × Int} (nd' : (gs'.map (·.1)).Nodup) (m : g ∈ gs) (h : g ∉ gs') : like gs gs' = false := by
  unfold like lkA
  rw [Bool.and_eq_false_iff]
  right
  rw [List.all_eq_false]
  refine ⟨g, m, ?_⟩
  rw [decide_eq_true_iff]
  intro z
  by_cases c : g.1 ∈ gs'.map (·.1)
  · obtain ⟨x, mx, ex⟩ := List.mem_map.mp c
    have := pks_some nd' mx
    rw [ex, z] at this
    have h2 : g.2 = x.2 := V.int.inj (Option.some.inj this)
    exact h (by rw [show g = x from Prod.ext ex.symm h2]; exact mx)
  · rw [pks_none c] at z
    cases z
theorem unlike_len {gs gs' : List (Int × Int)} (h : gs.length ≠ gs'.length) : like gs gs' = false := by
  unfold like
  rw [beq_eq_false_iff_ne.mpr h, Bool.false_and]
section
variable {X : Cx} {k : Nat} {C : Addr} {q : Str} {st : Stmt} {ps : List Str} {sp : Sp}
/-- of a class of the text's own, asked how it stands to anything whose kind is not below it -/
def rCmpX (C : Addr) (K : PySem.W.Frag) (sp : Sp) : R2 := fun x y H Q => ∃ (a dx : Addr) (fs : List (Str × V)) (t : Value), x = .ref a ∧ H a = some (.ins C dx fs) ∧ TyX K H y t ∧ PySem.W.notFirst K C t = true ∧ sp [.ref a, y] H (fun v H' => ∃ c : Bool, v = .bl c ∧ Q (.bl c) H') E0
theorem cmpX {op : CmpOp} {pins : List (Addr × Obj)} {σ : L2.St} {H : Hp} {s : Shared} {Q : VK} {a dx : Addr} {y : V} {u t : Value} {fs : List (Str × V)} (D : Mf X.prog X.w X.K X.mg X.base k C (cmpInfo op).2.1 q ps st sp) (hr : Room k X.A) (I : Inv X pins σ H s) (ha : H a = some (.ins C dx fs)) (ry : RelV y u) (ty : TyX X.K H y t) (nf : PySem.W.notFirst X.K C t = true)
    (h : sp [.ref a, y] H (fun v H' => ∃ c : Bool, v = .bl c ∧ Q (.bl c) H') E0) : wpAny (model X.prog X.w) X.A (richCompare op (.ref a) u) (EP X pins σ Q) X.xe s := by
  obtain ⟨f, fd, _, M, bi, F⟩ := D.ex
  obtain ⟨mA, J, _⟩ := ins_get I.hok ha
  obtain ⟨od, J, _⟩ := J.look
  obtain ⟨P, Z, p, _⟩ := kit_of I ry ty
  obtain ⟨mm, hF⟩ := I.fr
  refine PySem.W.cmp_K (op := op) hr.units0 hF I.ok.mod.kin J (Z.ty _ _ I.kIn p) nf M.at_ M.fn ?_
  have r2 : Vals [V.ref a, y] [Value.ref a, u] := .cons rfl (.cons ry .nil)
  refine wpAny_mono (run_in F hr rfl bi I r2 h) (fun u s' hq => ?_) fun _ _ x => x
  obtain ⟨v, H', I', rv, c, rfl, q⟩ := hq
  cases rv
  exact ⟨.bl c, H', I', rfl, q⟩
theorem op_eqX (D : Mf X.prog X.w X.K X.mg X.base k C "__eq__" q ps st sp) (hr : Room k X.A) : OpR X (compareOp .Eq) (rCmpX C X.K sp) := by
  intro pins s σ H x y v u Q I rx ry h
  obtain ⟨a, dx, fs, t, rfl, ha, ty, nf, h⟩ := h
  cases rx
  exact cmpX (op := .Eq) D hr I ha ry ty nf h
theorem op_neX (D : Mf X.prog X.w X.K X.mg X.base k C "__ne__" q ps st sp) (hr : Room k X.A) : OpR X (compareOp .NotEq) (rCmpX C X.K sp) := by
  intro pins s σ H x y v u Q I rx ry h
  obtain ⟨a, dx, fs, t, rfl, ha, ty, nf, h⟩ := h
  cases rx
  exact cmpX (op := .NotEq) D hr I ha ry ty nf h
/-- the same, where the surrounding's own facts are to be named -/
theorem op_eqXK (K : PySem.W.Frag) (D : Mf X.prog X.w X.K X.mg X.base k C "__eq__" q ps st sp) (hr : Room k X.A) (eK : X.K = K := by rfl) : OpR X (compareOp .Eq) (rCmpX C K sp) := by
  subst eK
  exact op_eqX D hr
theorem op_neXK (K : PySem.W.Frag) (D : Mf X.prog X.w X.K X.mg X.base k C "__ne__" q ps st sp) (hr : Room k X.A) (eK : X.K = K := by rfl) : OpR X (compareOp .NotEq) (rCmpX C K sp) := by
  subst eK
  exact op_neX D hr
end
end El
namespace El
open PySem PySem.Spec PyProof.Rows L2
section
variable {P : Program} {w : World} {K : PySem.W.Frag} {mg : Str → Option Value} {base : Heap}
abbrev s_Inn___eq__ : Stmt := inClass (topS 8) 8
abbrev N_Inn___eq__ : List Str := ["self", "other"]
abbrev P_Inn___eq__ : List Str := ["self", "other"]
theorem sc_Inn___eq__ : FnScope N_Inn___eq__ P_Inn___eq__ (defScope s_Inn___eq__) := ⟨rfl, rfl, rfl, by decide +kernel, rfl, by decide +kernel, by decide +kernel⟩
/-- Inns with the same guests are equal -/
def sp_Inn___eq__ (C : Addr) : Sp := fun vs H Q _ => ∃ (B B' : Addr → Prop) (p d o p' d' o' : Addr) (ts ts' : List Addr) (gs gs' : List (Int × Int)) (rs rs' : List (List Int)), vs = [.ref p, .ref p'] ∧ InnAt C H B p d o ts gs rs ∧ InnAt C H B' p' d' o' ts' gs' rs' ∧ (gs.map (·.1)).Nodup ∧ gs.Perm gs' ∧ Q (.bl true) H
theorem ok_Inn___eq__ {C : Addr} (A : Ma K C "__eq__" "Inn.__eq__" P_Inn___eq__ s_Inn___eq__) (B : Bi mg) (T : InnT K mg C) (J : InsT K C) : Mf P w K mg base 1 C "__eq__" "Inn.__eq__" P_Inn___eq__ s_Inn___eq__ (sp_Inn___eq__ C) := by
  refine A.mf fun f fd F => F.ok sc_Inn___eq__ (fun vs H Q E h => ?_) (fun cdv AA outer s H vs Q E hr h => ?_)
  · obtain ⟨_, _, _, _, _, _, _, _, _, _, _, _, _, _, rfl, _⟩ := h
    rfl
  · obtain ⟨BB, BB', p, d, o, p', d', o', ts, ts', gs, gs', rs, rs', rfl, hI, hI', hnd, hp, q⟩ := h
    have nd := sc_Inn___eq__.nd
    refine ⟨_, (pss_one (ps_ret (pe_and (pe_callB call_isi (by rfl) B.isinstance (by decide +kernel) (pa_cons (pv 1) (pa_cons (pe_glob rfl T.mgC (relRefO _)) pa_nil))) (pe_one (pe_cmpR (op_eq_dictA hr.units0) (pe_fld (pv 0) rfl) (pe_fld (pv 1) rfl) (nomark _)))))), ?_⟩
    obtain ⟨dx, ep⟩ := hI.ob
    obtain ⟨dx', ep'⟩ := hI'.ob
    have nd' : (gs'.map (·.1)).Nodup := (hp.map (·.1)).nodup_iff.mp hnd
    refine ⟨_, rfl, _, _, _, _, _, rfl, .own C, .base (.ins ep' T.cl J.ha J.hn J.ht J.hm), kit_same C, _, rfl, iteT ⟨_, rfl, p, C, dx, _, _, rfl, ep, T.cl, T.nP, iflds_p _ _, _, rfl, p', C, dx', _, _, rfl, ep', T.cl, T.nP, iflds_p _ _, d, d', _, _, rfl, rfl, hI.dc, hI'.dc, ?_, fun kv m => ?_, q⟩⟩
    · rw [pks_len, pks_len, hp.length_eq]
    · obtain ⟨g, hg, rfl⟩ := List.mem_map.mp m
      exact ⟨pks_some nd' (hp.mem_iff.mp hg), rfl⟩
abbrev s_Inn___ne__ : Stmt := inClass (topS 8) 9
abbrev N_Inn___ne__ : List Str := ["self", "other"]
abbrev P_Inn___ne__ : List Str := ["self", "other"]
theorem sc_Inn___ne__ : FnScope N_Inn___ne__ P_Inn___ne__ (defScope s_Inn___ne__) := ⟨rfl, rfl, rfl, by decide +kernel, rfl, by decide +kernel, by decide +kernel⟩
def sp_Inn___ne__ (C : Addr) : Sp := fun vs H Q _ => ∃ (B B' : Addr → Prop) (p d o p' d' o' : Addr) (ts ts' : List Addr) (gs gs' : List (Int × Int)) (rs rs' : List (List Int)), vs = [.ref p, .ref p'] ∧ InnAt C H B p d o ts gs rs ∧ InnAt C H B' p' d' o' ts' gs' rs' ∧ (gs.map (·.1)).Nodup ∧ gs.Perm gs' ∧ Q (.bl false) H
theorem ok_Inn___ne__ {C : Addr} (A : Ma K C "__ne__" "Inn.__ne__" P_Inn___ne__ s_Inn___ne__) (M___eq__ : Mf P w K mg base 1 C "__eq__" "Inn.__eq__" P_Inn___eq__ s_Inn___eq__ (sp_Inn___eq__ C)) : Mf P w K mg base 2 C "__ne__" "Inn.__ne__" P_Inn___ne__ s_Inn___ne__ (sp_Inn___ne__ C) := by
  refine A.mf fun f fd F => F.ok sc_Inn___ne__ (fun vs H Q E h => ?_) (fun cdv AA outer s H vs Q E hr h => ?_)
  · obtain ⟨_, _, _, _, _, _, _, _, _, _, _, _, _, _, rfl, _⟩ := h
    rfl
  · obtain ⟨BB, BB', p, d, o, p', d', o', ts, ts', gs, gs', rs, rs', rfl, hI, hI', hnd, hp, q⟩ := h
    have nd := sc_Inn___ne__.nd
    refine ⟨_, (pss_one (ps_ret (pe_not (pe_cmpR (op_eqO M___eq__ (hr.mono (by decide))) (pv 0) (pv 1) (nomark _))))), ?_⟩
    obtain ⟨dx, ep⟩ := hI.ob
    obtain ⟨dx', ep'⟩ := hI'.ob
    exact ⟨_, rfl, _, rfl, p, p', dx, dx', _, _, rfl, rfl, ep, ep', _, _, p, d, o, p', d', o', ts, ts', gs, gs', rs, rs', rfl, hI, hI', hnd, hp, _, rfl, _, rfl, q⟩
end
end El
namespace El
open PySem PySem.Spec PyProof.Rows L2
theorem srtRevK {X : Cx} {b : Bool} (K : PySem.W.Frag) (e : X.K = K := by rfl) : CallRK X (.builtin "sorted") [Str.ofString "reverse"] (rSortedKw K b [.bl b]) := by
  subst e
  exact cr_sortedRev
section
variable {P : Program} {w : World} {K : PySem.W.Frag} {mg : Str → Option Value} {base : Heap}
abbrev s__law_sorted : Stmt := topS 20
abbrev N__law_sorted : List Str := ["stand", "room"]
abbrev P__law_sorted : List Str := ["stand"]
theorem sc__law_sorted : FnScope N__law_sorted P__law_sorted (defScope s__law_sorted) := ⟨rfl, rfl, rfl, by decide +kernel, rfl, by decide +kernel, by decide +kernel⟩
def sp__law_sorted : Sp := fun vs H Q _ => ∃ (B : Addr → Prop) (o : Addr) (ts : List Addr) (rs : List (List Int)), vs = [.ref o] ∧ RmsAt H B o ts rs ∧ rs.length ≤ 1000 ∧
  ∀ (H' : Hp) (q : Addr) (us : List Addr), Same H H' → RmsAt H' (fun b => H b = none) q us (rs.map down) → Q (.ref q) H'
theorem ok__law_sorted (A : At K mg "_law_sorted" P__law_sorted s__law_sorted) (B : Bi mg) : Df P w K mg base 1 "_law_sorted" P__law_sorted s__law_sorted sp__law_sorted := by
  refine A.df fun f fd F => F.ok sc__law_sorted (fun vs H Q E h => ?_) (fun cdv AA outer s H vs Q E hr h => ?_)
  · obtain ⟨_, _, _, _, rfl, _⟩ := h
    rfl
  · obtain ⟨BB, o, ts, rs, rfl, hR, hl, q⟩ := h
    have nd := sc__law_sorted.nd
    refine ⟨_, (pss_one (ps_ret (pe_lc (own := [("room", 1)]) (tt := tYes) rfl nd (pi_list (pv 0)) (blkOk_by (N := N__law_sorted) (sc := defScope s__law_sorted) (by decide +kernel)) (fun _ _ _ _ _ => (pg_name (i := 1) nd rfl (.inl rfl))) (fun _ _ _ _ _ => pts_nil) (fun _ _ _ _ _ => (pe_callBK (srtRevK (b := true) K) (by rfl) B.sorted (by decide +kernel) (pa_cons (pv 1) pa_nil) (pk_cons pe_bl pk_nil)))))), ?_⟩
    refine ⟨_, rfl, o, rfl, ⟨_, hR.seq⟩, fun D nD => ?_⟩
    refine lc_it (walk_list (xs := ts.map V.ref)) (fun k H2 => Same H H2 ∧ ∃ us, RmsAt H2 (fun z => H z = none) D us ((rs.take k).map down)) ⟨same_new nD, [], RmsAt.nil upd_same nD⟩ (fun k H2 _ hW => (hR.same hW.1).seq) (fun k x H2 H3 hk hW hY => ?_) (fun H2 hW => ?_)
    · obtain ⟨sm, us, hL⟩ := hW
      obtain ⟨rfl, hx⟩ := hY
      obtain ⟨t, r, rfl, _, er, et⟩ := (hR.same sm).get hx
      refine ⟨rfl, .ref t, rfl, t, r, rfl, rfl, SqL.of et, fun ms u hp hs nu => ?_⟩
      have hms : ms = down r := down_is hp hs
      subst hms
      have hL2 := hL.same (same_new (o := .lst ((down r).map V.int)) nu)
      have nu0 : H u = none := sm.free nu
      have uD : u ≠ D := no_of hL.top nu
      have uus : u ∉ us := fun m => by
        obtain ⟨x, ex⟩ := hL.lives m
        rw [nu] at ex
        cases ex
      have fin := hL2.addN (u := u) (r := down r) upd_same nu0 uus uD
      have e1 : (rs.take k).map down ++ [down r] = (rs.take (k + 1)).map down := by
        rw [take_snoc er, List.map_append]
        rfl
      rw [e1] at fin
      refine ⟨_, hL2.top, ils ?_, Same.mut (sm.trans (same_new nu)) nD, _, fin⟩
      rw [List.length_map, hL.len, List.length_map, List.length_take]
      omega
    · obtain ⟨sm, us, hL⟩ := hW
      rw [List.length_map, hR.len, List.take_length] at hL
      exact q H2 D us sm hL
end
end El
namespace El
open PySem PySem.Spec PyProof.Rows L2
abbrev NewOr (B : Addr → Prop) (H : Hp) (q : Addr) : Addr → Prop := fun b => (B b ∨ H b = none) ∧ b ≠ q
theorem set_same : ∀ {l : List (List Int)} {i : Nat} {a : List Int}, l[i]? = some a → l.set i a = l
  | [], _, _, h => by simp at h
  | b :: l, 0, a, h => by rw [show b = a from Option.some.inj h]; rfl
  | b :: l, i + 1, a, h => congrArg (b :: ·) (set_same (l := l) (by simpa using h))
theorem down_again (r : List Int) (a : Int) : down (down r ++ [a]) = down (r ++ [a]) := down_is ((down_perm _).trans ((down_perm r).append_right _)) (down_sorted _)
theorem down_down (r : List Int) : down (down r) = down r := (down_is (List.Perm.refl _) (down_sorted r)).symm
/-- without a, in whatever order -/
theorem down_without {R : List Int} {a : Int} (nd : R.Nodup) : down (R.filter fun z => !decide (z = a)) = (down R).erase a := by
  refine (down_is ?_ ((down_sorted R).sublist (List.erase_sublist ..))).symm
  have e : (R.filter fun z => !decide (z = a)) = R.erase a := by
    rw [nd.erase_eq_filter]
    refine List.filter_congr fun z _ => ?_
    by_cases h : z = a <;> simp [h]
  rw [e]
  exact (down_perm R).erase a
theorem flat_down (S : List (List Int)) : (S.map down).flatten.Perm S.flatten := by
  induction S with
  | nil => exact .nil
  | cons r S ih =>
    rw [List.map_cons, List.flatten_cons, List.flatten_cons]
    exact (down_perm r).append ih
theorem down_nil {r : List Int} (h : down r = []) : r = [] := by
  have := (down_perm r).length_eq
  rw [h] at this
  exact List.eq_nil_of_length_eq_zero this.symm
theorem eqv_noGs (gs : List (Int × Int)) : PyData.eqv (dGs gs) (dInts []) = gs.isEmpty := by
  cases gs <;> rfl
theorem eqv_noRows (rs : List (List Int)) : PyData.eqv (dRows rs) (dInts []) = rs.isEmpty := by
  cases rs <;> rfl
end El
namespace El
open PySem PySem.Spec PyProof.Rows L2
section
variable {P : Program} {w : World} {K : PySem.W.Frag} {mg : Str → Option Value} {base : Heap}
abbrev s__law_crowded : Stmt := topS 17
abbrev N__law_crowded : List Str := ["room", "folk", "spot", "old"]
abbrev P__law_crowded : List Str := ["room", "folk"]
theorem sc__law_crowded : FnScope N__law_crowded P__law_crowded (defScope s__law_crowded) := ⟨rfl, rfl, rfl, by decide +kernel, rfl, by decide +kernel, by decide +kernel⟩
def sp__law_crowded : Sp := fun vs H Q _ => ∃ (r d : Addr) (ns : List Int) (gs : List (Int × Int)), vs = [.ref r, .ref d] ∧ H r = some (.lst (ns.map V.int)) ∧ H d = some (.dK (pks gs)) ∧ (∀ a ∈ ns, a ∈ gs.map (·.1)) ∧ (gs.map (·.1)).Nodup ∧ ns.length ≤ 1000 ∧
  ∀ (H' : Hp) (q : Addr) (L : List Int), Same H H' → H q = none → H' q = some (.lst (L.map V.int)) → L[0]? = eldUp gs ns → Q (.ref q) H'
theorem ok__law_crowded (A : At K mg "_law_crowded" P__law_crowded s__law_crowded) (B : Bi mg) : Df P w K mg base 1 "_law_crowded" P__law_crowded s__law_crowded sp__law_crowded := by
  refine A.df fun f fd F => F.ok sc__law_crowded (fun vs H Q E h => ?_) (fun cdv AA outer s H vs Q E hr h => ?_)
  · obtain ⟨_, _, _, _, rfl, _⟩ := h
    rfl
  · obtain ⟨r, d, ns, gs, rfl, er, ed, hm, hnd, hl, q⟩ := h
    have nd := sc__law_crowded.nd
    refine ⟨_, (pss_one (ps_ret (pe_lc (own := [("spot", 2), ("old", 3)]) rfl nd (pi_enum (by rfl) B.enumerate (pa_cons (pe_callBK (cr_sortedRev (b := true)) (by rfl) B.sorted (by decide +kernel) (pa_cons (pv 0) pa_nil) (pk_cons pe_bl pk_nil)) pa_nil)) (blkOk_by (N := N__law_crowded) (sc := defScope s__law_crowded) (by decide +kernel)) (fun _ _ _ _ _ => (pgTupK K 2 (by rfl) (pgs_cons (pg_name (i := 2) nd rfl (.inl rfl)) (pgs_cons (pg_name (i := 3) nd rfl (.inl rfl)) pgs_nil)))) (fun _ _ _ _ _ => (pts_one (pt_cmpR op_gt (pv 2) (pe_dget (hu_of hr) (pv 1) (pv 3) (fun _ _ => rfl)) (nomark _)))) (fun _ _ _ _ _ => (pv 3))))), ?_⟩
    refine ⟨_, rfl, r, ns, rfl, rfl, SqL.of er, fun ms p hp hs np => ?_⟩
    have hms : ms = down ns := down_is hp hs
    subst hms
    have s1 : Same H (upd H p (.lst ((down ns).map V.int))) := same_new np
    have ep : upd H p (.lst ((down ns).map V.int)) p = some (.lst ((down ns).map V.int)) := upd_same
    revert s1 ep
    generalize upd H p (.lst ((down ns).map V.int)) = H1
    intro s1 ep
    refine ⟨p, _, rfl, SqL.of ep, fun D nD => ?_⟩
    have hpD : p ≠ D := ne_of_none ep nD
    refine lc_it (walk_enum (xs := (down ns).map V.int)) (fun k H2 => Same H1 H2 ∧ ∃ L : List Int, H2 D = some (.lst (L.map V.int)) ∧ L.length ≤ k ∧ ((L = [] ∧ ∀ (j : Nat) (b : Int), j < k → (down ns)[j]? = some b → (j : Int) ≤ pof gs b) ∨ ∃ a, L[0]? = some a ∧ eldUp gs ns = some a))
      ⟨same_new nD, [], upd_same, Nat.le_refl _, .inl ⟨rfl, fun j b h => absurd h (Nat.not_lt_zero _)⟩⟩ (fun k H2 _ hW => SqL.of (hW.1 _ _ ep)) (fun k x H2 H3 hk hW hY => ?_) (fun H2 hW => ?_)
    · obtain ⟨sm, L, eL, lL, hL⟩ := hW
      obtain ⟨T, x1, x2, rfl, nT, rfl, f1, f2⟩ := hY
      obtain rfl : V.int ↑k = x1 := Option.some.inj f1
      obtain ⟨a, ea, rfl⟩ := ints_at f2
      have s3 : Same H2 (upd H2 T (.tup [.int k, .int a])) := same_new nT
      have sm3 := sm.trans s3
      have hk' : k < 1000 := by
        have h1 := at_lt ea
        have h2 := (down_perm ns).length_eq
        omega
      have ha : a ∈ gs.map (·.1) := hm a ((down_perm ns).mem_iff.mp (List.mem_of_getElem? ea))
      refine ⟨T, [.int k, .int a], rfl, SqT.of upd_same, rfl, .int k, [.int a], rfl, .int a, [], rfl, rfl, rfl, .int k, rfl, .ref d, rfl, .int a, rfl, d, _, rfl, dget_pof (sm3 _ _ (s1 _ _ ed)) hnd ha, _, _, rfl, rfl, _, rfl, ite2 (fun e => ?_) (fun e => ?_)⟩
      · have e : pof gs a < (k : Int) := of_decide_eq_true e
        refine ⟨.int a, rfl, _, s3 _ _ eL, ils (by rw [List.length_map]; omega), Same.mut sm3 nD, L ++ [a], ?_, ?_, ?_⟩
        · rw [upd_same, List.map_append]
          rfl
        · rw [List.length_append]
          exact Nat.succ_le_succ lL
        · rcases hL with ⟨rfl, hb⟩ | ⟨b, hb1, hb2⟩
          · exact .inr ⟨a, rfl, upIn_at ea (fun j b hj eb => hb j b hj eb) e⟩
          · refine .inr ⟨b, ?_, hb2⟩
            rw [List.getElem?_append_left (at_lt hb1)]
            exact hb1
      · have e : ¬ pof gs a < (k : Int) := fun z => e (decide_eq_true z)
        refine ⟨sm3, L, s3 _ _ eL, Nat.le_succ_of_le lL, ?_⟩
        rcases hL with ⟨rfl, hb⟩ | hb
        · refine .inl ⟨rfl, fun j b hj eb => ?_⟩
          by_cases h : j < k
          · exact hb j b h eb
          · have : j = k := by omega
            subst this
            obtain rfl : a = b := Option.some.inj (ea.symm.trans eb)
            omega
        · exact .inr hb
    · obtain ⟨sm, L, eL, lL, hL⟩ := hW
      refine q H2 D L (s1.trans sm) (s1.free nD) eL ?_
      rcases hL with ⟨rfl, hb⟩ | ⟨b, hb1, hb2⟩
      · have hu : eldUp gs ns = none := upIn_none fun i a e => hb i a (by rw [List.length_map]; exact at_lt e) e
        rw [hu]
        rfl
      · rw [hb1, hb2]
end
end El
namespace El
open PySem PySem.Spec PyProof.Rows L2
section
variable {P : Program} {w : World} {K : PySem.W.Frag} {mg : Str → Option Value} {base : Heap}
abbrev s__law_comes : Stmt := topS 18
abbrev N__law_comes : List Str := ["stand", "folk", "old", "bears", "told", "walker", "spot", "one"]
abbrev P__law_comes : List Str := ["stand", "folk", "old", "bears"]
theorem sc__law_comes : FnScope N__law_comes P__law_comes (defScope s__law_comes) := ⟨rfl, rfl, rfl, by decide +kernel, rfl, by decide +kernel, by decide +kernel⟩
def sp__law_comes : Sp := fun vs H Q _ => ∃ (B : Addr → Prop) (o d : Addr) (sts : List Addr) (S : List (List Int)) (gs : List (Int × Int)) (x : Int × Int), vs = [.ref o, .ref d, .int x.1, .int x.2] ∧ RmsAt H B o sts S ∧ H d = some (.dK (pks gs)) ∧ S.map down = settle gs ∧ Fit (gs ++ [x]) ∧ gs.length ≤ 400 ∧
  ∀ (H' : Hp) (q : Addr) (us sts' : List Addr) (S' : List (List Int)), RmsAt H' (fun b => B b ∨ H b = none) o sts' S' → S'.map down = settle (gs ++ [x]) → H' d = some (.dK (pks (gs ++ [x]))) → GsAt H' (fun b => H b = none) q us (comeT gs x) → Kp (fun b => b ≠ o ∧ b ≠ d) H H' → (∀ b, H' b = none → H b = none) → Q (.ref q) H'
/-- the loop of _law_comes -/
def LcW (B : Addr → Prop) (H : Hp) (o d q : Addr) (gs : List (Int × Int)) (x : Int × Int) (m : Nat) (σ : L2.St) (H2 : Hp) : Prop :=
  ∃ (T : List (Int × Int)) (us sts : List Addr) (S : List (List Int)) (wk : Addr) (L : List Int) (i : Int), σ = [some (.ref o), some (.ref d), some (.int x.1), some (.int x.2), some (.ref q), some (.ref wk), some (.int i), none] ∧ RmsAt H2 (NewOr B H q) o sts S ∧ H2 d = some (.dK (pks (gs ++ [x]))) ∧ GsAt H2 (fun b => H b = none) q us T ∧ H2 wk = some (.lst (L.map V.int)) ∧ H wk = none ∧ wk ≠ q ∧
    Kp (fun b => b ≠ o ∧ b ≠ d) H H2 ∧ (∀ b, H2 b = none → H b = none) ∧
    ((∃ (k : Nat) (x' : Int × Int), i = k ∧ L[0]? = some x'.1 ∧ m + k = (settle (gs ++ [x])).length ∧ Mid (gs ++ [x]) (S.map down) k x' ∧ T.length = k ∧ comeT gs x = T ++ (comeF m (gs ++ [x]) (S.map down) k x'.1).1) ∨ (L = [] ∧ m = 0 ∧ T = comeT gs x ∧ S.map down = settle (gs ++ [x])))
/-- how it stands in a turn of the loop -/
structure Cs (B : Addr → Prop) (H : Hp) (o d q : Addr) (gs T : List (Int × Int)) (us : List Addr) (wk : Addr) (L : List Int) (Hn : Hp) (sts : List Addr) (S : List (List Int)) : Prop where
  r : RmsAt Hn (NewOr B H q) o sts S
  dd : Hn d = some (.dK (pks gs))
  g : GsAt Hn (fun b => H b = none) q us T
  w : Hn wk = some (.lst (L.map V.int))
  k : Kp (fun b => b ≠ o ∧ b ≠ d) H Hn
  v : ∀ b, Hn b = none → H b = none
  od : o ≠ d
  lo : ∃ y, H o = some y
  nw : H wk = none
  wq : wk ≠ q
theorem Cs.same {B : Addr → Prop} {H : Hp} {o d q : Addr} {gs T : List (Int × Int)} {us : List Addr} {wk : Addr} {L : List Int} {Hn Hm : Hp} {sts : List Addr} {S : List (List Int)} (c : Cs B H o d q gs T us wk L Hn sts S) (s : Same Hn Hm) : Cs B H o d q gs T us wk L Hm sts S :=
  ⟨c.r.same s, s _ _ c.dd, c.g.same s, s _ _ c.w, c.k.trans (.of s), fun b e => c.v b (s.free e), c.od, c.lo, c.nw, c.wq⟩
theorem Cs.top {B : Addr → Prop} {H : Hp} {o d q : Addr} {gs T : List (Int × Int)} {us : List Addr} {wk : Addr} {L : List Int} {Hn : Hp} {sts sts' : List Addr} {S S' : List (List Int)} {v : HO} (c : Cs B H o d q gs T us wk L Hn sts S) (r : RmsAt (upd Hn o v) (NewOr B H q) o sts' S') : Cs B H o d q gs T us wk L (upd Hn o v) sts' S' := by
  have off : ∀ b, H b = none → b ≠ o := fun b e z => by
    obtain ⟨y, ey⟩ := c.lo
    rw [← z, e] at ey
    cases ey
  refine ⟨r, by rw [upd_ne c.od.symm]; exact c.dd, c.g.newTop' (fun b m => off b (m.elim (fun z => z ▸ c.g.ba) (c.g.b b))) (Kp.mut Kp.refl fun z => z rfl), by rw [upd_ne (off _ c.nw)]; exact c.w, c.k.mut (fun z => z.1 rfl), fun b e => ?_, c.od, c.lo, c.nw, c.wq⟩
  by_cases z : b = o
  · rw [z, upd_same] at e
    cases e
  · rw [upd_ne z] at e
    exact c.v b e
theorem ok__law_comes (A : At K mg "_law_comes" P__law_comes s__law_comes) (B : Bi mg) (D__law_crowded : Df P w K mg base 1 "_law_crowded" P__law_crowded s__law_crowded sp__law_crowded) : Df P w K mg base 2 "_law_comes" P__law_comes s__law_comes sp__law_comes := by
  refine A.df fun f fd F => F.ok sc__law_comes (fun vs H Q E h => ?_) (fun cdv AA outer s H vs Q E hr h => ?_)
  · obtain ⟨_, _, _, _, _, _, _, rfl, _⟩ := h
    rfl
  · obtain ⟨BB, o, d, sts, S, gs, x, rfl, hR, hd, hS, hF, hl, q1⟩ := h
    have nd := sc__law_comes.nd
    refine ⟨_, (pss_cons (ps_dput (hu_of hr) (pv 1) (pv 2) (pv 3) rfl)
    (pss_cons (ps_asg (pe_tup (pa_cons (pe_lst pa_nil) (pa_cons (pe_lst (pa_cons (pv 2) pa_nil)) (pa_cons pe_int pa_nil)))) (pg_tup (by rfl) (pgs_cons (pg_name (i := 4) nd rfl (.inl rfl)) (pgs_cons (pg_name (i := 5) nd rfl (.inr rfl)) (pgs_cons (pg_name (i := 6) nd rfl (.inl rfl)) pgs_nil)))))
    (pss_cons (ps_while PassesOwn.never (pt_cmpR (op_neD hr.units) (pv 5) (pe_lst pa_nil) (nomark _)) (pss_cons (ps_expr (pe_bm PySem.F.plainAttrs_list PySem.F.slot_list_extend PySem.F.type_list_extend mt_extend (pv 0) (pa_cons (pe_op op_rep (pe_lst (pa_cons (pe_lst pa_nil) pa_nil)) (pe_callTy call_int1 (by rfl) B.int_ (by decide +kernel) (pa_cons (pe_cmpR op_eq (pv 6) (pe_callB call_len_seq (by rfl) B.len PySem.boot_len (pa_cons (pv 0) pa_nil)) (nomark _)) pa_nil))) pa_nil))) (pss_cons (ps_asg (pe_op op_cat (pe_ix ix_list (pv 0) (pv 6) (fun _ _ => rfl)) (pe_slice sl_list (pv 5) po_none (po_some pe_int))) (pg_sub (pv 0) (pv 6) set_list)) (pss_cons (ps_expr (pe_bm PySem.F.plainAttrs_list PySem.F.slot_list_append PySem.F.type_list_append mt_append (pv 4) (pa_cons (pe_tup (pa_cons (pe_ix ix_list (pv 5) pe_int (fun _ _ => rfl)) (pa_cons (pv 6) pa_nil))) pa_nil))) (pss_cons (ps_set (i := 5) nd rfl (.inr rfl) (pe_df D__law_crowded (hr.mono (by decide)) (by rfl) (pa_cons (pe_ix ix_list (pv 0) (pv 6) (fun _ _ => rfl)) (pa_cons (pv 1) pa_nil)))) (pss_cons (ps_asg (pe_lc (own := [("one", 7)]) rfl nd (pi_list (pe_ix ix_list (pv 0) (pv 6) (fun _ _ => rfl))) (blkOk_by (N := N__law_comes) (sc := defScope s__law_comes) (by decide +kernel)) (fun _ _ _ _ _ => (pg_name (i := 7) nd rfl (.inl rfl))) (fun _ _ _ _ _ => (pts_one (pt_cmpR (notInK K) (pv 7) (pe_slice (sllK K) (pv 5) po_none (po_some pe_int)) (by rfl)))) (fun _ _ _ _ _ => (pv 7))) (pg_sub (pv 0) (pv 6) set_list)) (pss_one (ps_set (i := 6) nd rfl (.inl rfl) (pe_op op_add (pv 6) pe_int)))))))))
    (pss_one (ps_ret (pv 4)))))), ?_⟩
    have hx : x.1 ∉ gs.map (·.1) := by
      have := hF.nd
      rw [List.map_append, List.nodup_append] at this
      exact fun m => this.2.2 _ m x.1 (by simp) rfl
    have hod : o ≠ d := fun z => by
      have e := hR.top
      rw [z, hd] at e
      cases e
    -- folk[old] = bears
    refine ⟨_, rfl, _, rfl, _, rfl, d, _, rfl, DPut.k (k := Sum.inl x.1) hd (ils (by rw [pks_len]; omega)), ?_⟩
    rw [putK_snoc hx]
    have R1 : RmsAt (upd H d (.dK (pks (gs ++ [x])))) BB o sts S := hR.newTop (fun b u m e => by
      have : b ≠ d := by
        rcases m with rfl | m
        · exact hod
        · intro z
          obtain ⟨r, er⟩ := hR.lives m
          rw [z, hd] at er
          cases er
      rw [upd_ne this]
      exact e) fun b m => by
        rcases m with rfl | m
        · exact hR.bo
        · exact hR.b b m
    have d1 : upd H d (.dK (pks (gs ++ [x]))) d = some (.dK (pks (gs ++ [x]))) := upd_same
    have k1 : Kp (fun b => b ≠ o ∧ b ≠ d) H (upd H d (.dK (pks (gs ++ [x])))) := Kp.mut Kp.refl fun z => z.2 rfl
    have v1 : ∀ b, upd H d (.dK (pks (gs ++ [x]))) b = none → H b = none := fun b e => by
      by_cases z : b = d
      · rw [z, upd_same] at e
        cases e
      · rw [upd_ne z] at e
        exact e
    revert R1 d1 k1 v1
    generalize upd H d (.dK (pks (gs ++ [x]))) = H1
    intro R1 d1 k1 v1
    -- told, walker, spot = ([], [old], 0)
    refine ⟨Nat.zero_le _, fun q nq => ⟨_, rfl, (by show 1 ≤ sizeLine; decide), fun wk nwk => ?_⟩⟩
    have qw : q ≠ wk := ne_of_none (o := .lst []) upd_same nwk
    refine ⟨(by show 3 ≤ sizeLine; decide), fun tt nt => ⟨tt, [.ref q, .ref wk, .int 0], rfl, SqT.of upd_same, rfl, .ref q, [.ref wk, .int 0], rfl, .ref wk, [.int 0], rfl, .int 0, [], rfl, rfl, ?_⟩⟩
    have st := same_new (o := .tup [.ref q, .ref wk, .int 0]) nt
    have s1 : Same H1 (upd (upd (upd H1 q (.lst [])) wk (.lst [.int x.1])) tt (.tup [.ref q, .ref wk, .int 0])) := ((same_new nq).trans (same_new nwk)).trans st
    have eq1 : upd (upd (upd H1 q (.lst [])) wk (.lst [.int x.1])) tt (.tup [.ref q, .ref wk, .int 0]) q = some (.lst []) := st _ _ (by rw [upd_ne qw, upd_same])
    have ew1 : upd (upd (upd H1 q (.lst [])) wk (.lst [.int x.1])) tt (.tup [.ref q, .ref wk, .int 0]) wk = some (.lst [.int x.1]) := st _ _ upd_same
    have nwk1 : H1 wk = none := (same_new nq).free nwk
    have R2 := (R1.reL (B' := NewOr BB H q) fun b z hb => ⟨.inl hb, fun e => by
      obtain ⟨v, ev⟩ := z
      rw [e, nq] at ev
      cases ev⟩).same s1
    revert s1 eq1 ew1 R2
    generalize upd (upd (upd H1 q (.lst [])) wk (.lst [.int x.1])) tt (.tup [.ref q, .ref wk, .int 0]) = H2
    intro s1 eq1 ew1 R2
    dsimp only [gName]
    refine seq_to (fun σ H3 => ∃ us sts' S' wk' i', σ = [some (.ref o), some (.ref d), some (.int x.1), some (.int x.2), some (.ref q), wk', i', none] ∧ RmsAt H3 (NewOr BB H q) o sts' S' ∧ S'.map down = settle (gs ++ [x]) ∧ H3 d = some (.dK (pks (gs ++ [x]))) ∧ GsAt H3 (fun b => H b = none) q us (comeT gs x) ∧ Kp (fun b => b ≠ o ∧ b ≠ d) H H3 ∧ (∀ b, H3 b = none → H b = none)) (fun X hX => ?_) (fun σ H3 hE => ?_)
    · refine while_to (LcW BB H o d q gs x) (fun σ H3 => ∃ us sts' S' wk' i', σ = [some (.ref o), some (.ref d), some (.int x.1), some (.int x.2), some (.ref q), wk', i', none] ∧ RmsAt H3 (NewOr BB H q) o sts' S' ∧ S'.map down = settle (gs ++ [x]) ∧ H3 d = some (.dK (pks (gs ++ [x]))) ∧ GsAt H3 (fun b => H b = none) q us (comeT gs x) ∧ Kp (fun b => b ≠ o ∧ b ≠ d) H H3 ∧ (∀ b, H3 b = none → H b = none))
        ⟨(settle (gs ++ [x])).length, [], [], sts, S, wk, [x.1], 0, rfl, R2, s1 _ _ d1, ⟨eq1, v1 q nq, rfl, fun i t g e _ => by simp at e, fun t m => by simp at m⟩, ew1, v1 wk nwk1, qw.symm, k1.trans (.of s1), fun b e => v1 b (s1.free e), .inl ⟨0, x, rfl, rfl, rfl, by rw [hS]; exact Mid.start hF, rfl, by rw [hS]; rfl⟩⟩ hX (fun X hX m σ H3 hW => ?_)
      obtain ⟨TT, us, sts3, S3, wk3, L, i, rfl, R3, d3, G3, ew3, nw3, wq3, k3, v3, out⟩ := hW
      refine ⟨_, rfl, Nat.zero_le _, fun u nu => ?_⟩
      have su : Same H3 (upd H3 u (.lst [])) := same_new nu
      refine ⟨dInts L, dInts [], Dp.ints (su _ _ ew3), Dp.ints upd_same, (Oks.ints _).shaped, (Oks.ints _).shaped, _, rfl, ?_⟩
      rw [eqv_nil]
      have R4 := R3.same su
      have d4 := su _ _ d3
      have G4 := G3.same su
      have ew4 := su _ _ ew3
      have k4 := k3.trans (Kp.of (B := fun b => b ≠ o ∧ b ≠ d) su)
      have v4 : ∀ b, upd H3 u (.lst []) b = none → H b = none := fun b e => v3 b (su.free e)
      revert R4 d4 G4 ew4 k4 v4
      generalize upd H3 u (.lst []) = H4
      intro R4 d4 G4 ew4 k4 v4
      rcases out with ⟨i, x', rfl, hL0, hmi, hM, hT, hco⟩ | ⟨rfl, rfl, rfl, hSS⟩
      · obtain ⟨LL, rfl⟩ : ∃ LL, L = x'.1 :: LL := by
          cases L with
          | nil => cases hL0
          | cons a b => exact ⟨b, by rw [show a = x'.1 from Option.some.inj hL0]⟩
        refine iteT ⟨fun σ' H' => ∃ m', m' < m ∧ LcW BB H o d q gs x m' σ' H', fun σ' H' h => h, ?_⟩
        obtain ⟨hi1, hi2, hl3, hm3, hx3⟩ := hM.first hF
        have hSl : (S3.map down).length = S3.length := List.length_map _
        have c4 : Cs BB H o d q (gs ++ [x]) TT us wk3 (x'.1 :: LL) H4 sts3 S3 := ⟨R4, d4, G4, ew4, k4, v4, hod, ⟨_, hR.top⟩, nw3, wq3⟩
        clear R4 d4 G4 ew4 k4 v4 R3 d3 G3 ew3 k3 v3
        have lgs : (gs ++ [x]).length ≤ 401 := by
          rw [List.length_append]
          exact Nat.succ_le_succ hl
        -- stand.extend([[]] * int(spot == len(stand)))
        refine ⟨.ref o, rfl, .inl ⟨rfl, _, c4.r.seq⟩, Nat.zero_le _, fun e1 n1 => ⟨(by show 1 ≤ sizeLine; decide), fun e2 n2 => ?_⟩⟩
        have sa : Same H4 (upd (upd H4 e1 (.lst [])) e2 (.lst [.ref e1])) := (same_new n1).trans (same_new n2)
        have ea1 : upd (upd H4 e1 (.lst [])) e2 (.lst [.ref e1]) e1 = some (.lst []) := (same_new n2) _ _ upd_same
        have ea2 : upd (upd H4 e1 (.lst [])) e2 (.lst [.ref e1]) e2 = some (.lst [.ref e1]) := upd_same
        have c5 := c4.same sa
        revert sa ea1 ea2 c5
        generalize upd (upd H4 e1 (.lst [])) e2 (.lst [.ref e1]) = H5
        intro sa ea1 ea2 c5
        refine ⟨_, rfl, .ref o, rfl, o, _, rfl, .inl c5.r.seq, rfl, .inr ⟨_, rfl, e2, _, [.ref e1], rfl, rfl, ea2, ?_, ?_, ?_, fun e3 n3 => ?_⟩⟩
        · split <;> decide
        · split <;> decide
        · split
          · show 1 * 1 ≤ sizeLine
            decide
          · show 1 * 0 ≤ sizeLine
            decide
        have hS3l : sts3.length = S3.length := c5.r.len
        have hcase : ∃ zs : List V, (List.replicate (if decide (V.int (i : Int) = V.int (((sts3.map V.ref).length : Nat) : Int)) then (1 : Int) else 0).toNat [V.ref e1]).flatten = zs ∧ zs.length ≤ 1 ∧ ((i = S3.length ∧ zs = [.ref e1]) ∨ (i < S3.length ∧ zs = [])) := by
          by_cases hil : i = S3.length
          · refine ⟨[.ref e1], ?_, Nat.le_refl _, .inl ⟨hil, rfl⟩⟩
            rw [List.length_map, hS3l, hil, decide_eq_true rfl]
            rfl
          · refine ⟨[], ?_, Nat.zero_le _, .inr ⟨by omega, rfl⟩⟩
            rw [List.length_map, hS3l, decide_eq_false (fun z => hil (by have := V.int.inj z; omega))]
            rfl
        obtain ⟨zs, hzs, hzl, hcs⟩ := hcase
        rw [hzs]
        have s6 := same_new (o := .lst zs) n3
        have c6 := c5.same s6
        have e16 := s6 _ _ ea1
        refine ⟨o, e3, _, _, rfl, rfl, c6.r.top, upd_same, ?_, ?_⟩
        · rw [List.length_map, hS3l]
          exact Nat.le_of_lt (ils (by omega))
        have e1n : e1 ∉ sts3 := fun m => by
          obtain ⟨r, er⟩ := c4.r.lives m
          rw [n1] at er
          cases er
        have e1o : e1 ≠ o := no_of c4.r.top n1
        have e1q : e1 ≠ q := no_of c4.g.top n1
        have st7 : ∃ sts7 S7 r, RmsAt (upd (upd H5 e3 (.lst zs)) o (.lst (sts3.map V.ref ++ zs))) (NewOr BB H q) o sts7 S7 ∧ S7[i]? = some r ∧ r.length ≤ 401 ∧ enterR (S3.map down) i x'.1 = (S7.set i (r ++ [x'.1])).map down ∧ S7.length ≤ 1000 := by
          rcases hcs with ⟨hil, rfl⟩ | ⟨hil, rfl⟩
          · refine ⟨sts3 ++ [e1], S3 ++ [[]], [], c6.r.addN (u := e1) (r := []) e16 ⟨.inr (c4.v _ n1), e1q⟩ e1n e1o, ?_, by simp, ?_, ?_⟩
            · rw [hil, List.getElem?_append_right (Nat.le_refl _), Nat.sub_self]
              rfl
            · rw [hil, ← hSl, enterR_new, hSl, List.set_append_right _ _ (Nat.le_refl _), Nat.sub_self, List.map_append]
              have e1 : down ([] ++ [x'.1]) = [x'.1] := (down_is (.refl _) (List.pairwise_singleton _ _)).symm
              show _ = S3.map down ++ [down ([] ++ [x'.1])]
              rw [e1]
            · rw [List.length_append]
              show S3.length + 1 ≤ 1000
              omega
          · obtain ⟨r, er⟩ := at_some hil
            refine ⟨sts3, S3, r, ?_, er, ?_, ?_, by omega⟩
            · rw [List.append_nil]
              have z := c6.r
              refine ⟨upd_same, z.bo, z.nd, z.no, z.len, fun j t r e1 e2 => ?_, z.b⟩
              rw [upd_ne (fun y => z.no (by rw [← y]; exact List.mem_of_getElem? e1))]
              exact z.at' j t r e1 e2
            · have := hm3 (down r) (List.mem_map_of_mem (List.mem_of_getElem? er))
              rw [(down_perm r).length_eq] at this
              omega
            · have er' : (S3.map down)[i]? = some (down r) := by
                rw [List.getElem?_map, er]
                rfl
              rw [enterR_old x'.1 er', down_again, List.map_set]
        obtain ⟨sts7, S7, r, R7, er7, lr, hen, lS7⟩ := st7
        have c7 := c6.top R7
        clear R7
        revert c7
        generalize upd (upd H5 e3 (.lst zs)) o (.lst (sts3.map V.ref ++ zs)) = H7
        intro c7
        clear c4 c5 c6 s6 sa ea1 ea2 e16
        -- stand[spot] = stand[spot] + walker[:1]
        obtain ⟨t7, et7, eh7⟩ := c7.r.of er7
        have at7 : (sts7.map V.ref)[i]? = some (.ref t7) := by
          rw [List.getElem?_map, et7]
          rfl
        have hi7 : i < S7.length := at_lt er7
        refine ⟨.ref o, rfl, .int i, rfl, o, _, _, .ref t7, rfl, rfl, SqL.of c7.r.top, atI_nat (j := i) at7, .ref wk3, rfl, _, rfl, wk3, _, rfl, SqL.of c7.w, fun p np => ?_⟩
        have ec : cutV ((x'.1 :: LL).map V.int) none (some 1) = [V.int x'.1] := cut_to ((x'.1 :: LL).map V.int) 1
        rw [ec]
        have sp := same_new (o := .lst [.int x'.1]) np
        refine ⟨t7, p, _, _, rfl, rfl, sp _ _ eh7, upd_same, ?_, fun v nv => ?_⟩
        · rw [List.length_map]
          exact Nat.le_of_lt (ils (n := r.length + 1) (by omega))
        have ev : r.map V.int ++ [V.int x'.1] = (r ++ [x'.1]).map V.int := by
          rw [List.map_append]
          rfl
        rw [ev]
        have c8 := c7.same (sp.trans (same_new (o := .lst ((r ++ [x'.1]).map V.int)) nv))
        have nv7 : H7 v = none := sp.free nv
        have ev8 : upd (upd H7 p (.lst [.int x'.1])) v (.lst ((r ++ [x'.1]).map V.int)) v = some (.lst ((r ++ [x'.1]).map V.int)) := upd_same
        revert c8 ev8
        generalize upd (upd H7 p (.lst [.int x'.1])) v (.lst ((r ++ [x'.1]).map V.int)) = H8
        intro c8 ev8
        refine ⟨.ref o, rfl, _, rfl, o, _, _, i, rfl, rfl, c8.r.top, ixN_of (by rw [List.length_map, c8.r.len]; exact hi7), ?_⟩
        have vn : v ∉ sts7 := fun m => by
          obtain ⟨y, ey⟩ := c7.r.lives m
          rw [nv7] at ey
          cases ey
        have R9 := c8.r.put hi7 ev8 ⟨.inr (c7.v _ nv7), no_of c7.g.top nv7⟩ vn (no_of c7.r.top nv7)
        rw [List.map_set] at R9
        have c9 := c8.top R9
        clear R9
        revert c9
        have e9l : (sts7.set i v)[i]? = some v := List.getElem?_set_self (by rw [c7.r.len]; exact hi7)
        rw [← List.map_set]
        generalize upd H8 o (.lst ((sts7.set i v).map V.ref)) = H9
        intro c9
        clear c8 c7 ev8
        obtain ⟨EE, eE, lE, inE, ndE, out⟩ := hM.step hF
        have er9 : (S7.set i (r ++ [x'.1]))[i]? = some (r ++ [x'.1]) := List.getElem?_set_self hi7
        have hEE : EE = down (r ++ [x'.1]) := by
          rw [hen, List.getElem?_map, er9] at eE
          exact (Option.some.inj eE).symm
        have up9 : eldUp (gs ++ [x]) EE = eldUp (gs ++ [x]) (r ++ [x'.1]) := by
          unfold eldUp
          rw [hEE, down_down]
        -- told.append((walker[0], spot))
        refine ⟨.ref q, rfl, .inl ⟨rfl, _, c9.g.seq⟩, .ref wk3, rfl, wk3, _, 0, .int x'.1, rfl, rfl, SqL.of c9.w, atI_nat (j := 0) rfl, .int i, rfl, (by show 2 ≤ sizeLine; decide), fun t nt => ?_⟩
        have ct := c9.same (same_new (o := .tup [.int x'.1, .int i]) nt)
        refine ⟨q, _, _, rfl, rfl, ct.g.top, ils (by rw [List.length_map, ct.g.len, hT]; omega), ?_⟩
        have Ga := ct.g.push ct.g.offTs (q := t) (g := (x'.1, (i : Int))) upd_same (c9.v t nt)
        have qo : q ≠ o := fun z => by
          obtain ⟨y, ey⟩ := ct.lo
          rw [← z, ct.g.ba] at ey
          cases ey
        have qd : q ≠ d := fun z => by
          have e := ct.g.ba
          rw [z, hd] at e
          cases e
        have ca : Cs BB H o d q (gs ++ [x]) (TT ++ [(x'.1, (i : Int))]) (us ++ [t]) wk3 (x'.1 :: LL) (upd (upd H9 t (.tup [.int x'.1, .int i])) q (.lst (us.map V.ref ++ [.ref t]))) (sts7.set i v) (S7.set i (r ++ [x'.1])) := by
          refine ⟨ct.r.keep (Kp.mut Kp.refl fun z => z.2 rfl), by rw [upd_ne qd.symm]; exact ct.dd, Ga, by rw [upd_ne ct.wq]; exact ct.w, ct.k.mutF ct.g.ba, fun b e => ?_, ct.od, ct.lo, ct.nw, ct.wq⟩
          by_cases z : b = q
          · rw [z, upd_same] at e
            cases e
          · rw [upd_ne z] at e
            exact ct.v b e
        revert ca
        generalize upd (upd H9 t (.tup [.int x'.1, .int i])) q (.lst (us.map V.ref ++ [.ref t])) = Ha
        intro ca
        clear ct Ga c9
        -- walker = _law_crowded(stand[spot], folk)
        have ata : ((sts7.set i v).map V.ref)[i]? = some (.ref v) := by
          rw [List.getElem?_map, e9l]
          rfl
        have eva := ca.r.at' i v _ e9l er9
        have inE' : ∀ a ∈ r ++ [x'.1], a ∈ (gs ++ [x]).map (·.1) := fun a m => inE a (by rw [hEE]; exact (down_perm _).mem_iff.mpr m)
        have ndE' : (r ++ [x'.1]).Nodup := by
          rw [hEE] at ndE
          exact (down_perm _).nodup_iff.mp ndE
        refine ⟨.ref o, rfl, .int i, rfl, o, _, _, .ref v, rfl, rfl, SqL.of ca.r.top, atI_nat (j := i) ata, .ref d, rfl, v, d, _, _, rfl, eva, ca.dd, inE', hF.nd, ?_, fun Hb w7 L7 sb nw7 ew7 hL7 => ?_⟩
        · rw [List.length_append]
          show r.length + 1 ≤ 1000
          omega
        dsimp only [gName]
        have cb := ca.same sb
        have evb := sb _ _ eva
        have nw7H : H w7 = none := ca.v _ nw7
        have w7q : w7 ≠ q := no_of ca.g.top nw7
        -- stand[spot] = [one for one in stand[spot] if one not in walker[:1]]
        refine ⟨.ref o, rfl, .int i, rfl, o, _, _, .ref v, rfl, rfl, SqL.of cb.r.top, atI_nat (j := i) ata, v, rfl, ⟨_, SqL.of evb⟩, fun D nD => ?_⟩
        have hcut : cutV (L7.map V.int) none (some 1) = (L7.take 1).map V.int := by
          rw [List.map_take]
          exact cut_to (L7.map V.int) 1
        have hflat : ((L7.take 1).map V.int).all flatV = true := by
          rw [List.all_map]
          exact List.all_eq_true.mpr fun _ _ => rfl
        refine lc_selG (fun z => !inV (V.int z) ((L7.take 1).map V.int)) evb nD (by rw [List.length_append]; show r.length + 1 ≤ 1000; omega) (fun z H' Q sz h => ⟨.int z, rfl, .ref w7, rfl, _, rfl, w7, _, rfl, SqL.of (sz _ _ ew7), fun p np => by
          rw [hcut]
          exact ⟨p, _, rfl, .inl (SqL.of upd_same), rfl, hflat, _, rfl, h _ (same_new np)⟩⟩) (fun z H' Q h => ⟨.int z, rfl, h⟩) (fun _ => rfl) (fun Hc sc ec => ?_)
        have cc := cb.same sc
        have nDa : Ha D = none := sb.free nD
        refine ⟨.ref o, rfl, .int i, rfl, o, _, _, i, rfl, rfl, cc.r.top, ixN_of (by rw [List.length_map, cc.r.len, List.length_set]; exact hi7), ?_⟩
        have Dn : D ∉ sts7.set i v := fun m => by
          obtain ⟨y, ey⟩ := ca.r.lives m
          rw [nDa] at ey
          cases ey
        have Rd := cc.r.put (i := i) (by rw [List.length_set]; exact hi7) ec ⟨.inr (ca.v _ nDa), no_of ca.g.top nDa⟩ Dn (no_of ca.r.top nDa)
        rw [List.map_set] at Rd
        have cd := cc.top Rd
        have ewd : ∀ y, upd Hc o y w7 = some (.lst (L7.map V.int)) := fun y => by
          have w7o : w7 ≠ o := no_of ca.r.top nw7
          rw [upd_ne w7o]
          exact sc _ _ ew7
        -- spot = spot + 1
        refine ⟨.int i, rfl, _, _, rfl, rfl, ?_⟩
        obtain ⟨m, rfl⟩ : ∃ m', m = m' + 1 := ⟨m - 1, by omega⟩
        have hfil : (fun z : Int => !inV (V.int z) ((L7.take 1).map V.int)) = fun z => !decide (z ∈ L7.take 1) := funext fun z => by rw [inV_ints]
        rw [hfil] at cd
        have hmd : ((S7.set i (r ++ [x'.1])).set i ((r ++ [x'.1]).filter fun z => !decide (z ∈ L7.take 1))).map down = (enterR (S3.map down) i x'.1).set i (down ((r ++ [x'.1]).filter fun z => !decide (z ∈ L7.take 1))) := by
          rw [hen, List.map_set]
        rcases out with ⟨hu, hs⟩ | ⟨y, my, hu, hM'⟩
        · rw [← up9, hu] at hL7
          have h7 : L7 = [] := by
            cases L7 with
            | nil => rfl
            | cons a b => cases hL7
          rw [comeF_end eE hu] at hco
          refine ⟨0, by omega, TT ++ [(x'.1, (i : Int))], us ++ [t], _, _, w7, L7, _, rfl, cd.r, cd.dd, cd.g, ewd _, nw7H, w7q, cd.k, cd.v, .inr ⟨h7, rfl, hco.symm, ?_⟩⟩
          rw [hmd, h7]
          have e2 : ((r ++ [x'.1]).filter fun z => !decide (z ∈ List.take 1 ([] : List Int))) = r ++ [x'.1] := List.filter_eq_self.mpr fun a _ => by simp
          rw [e2, ← hEE, ← hs]
          exact set_same eE
        · rw [← up9, hu] at hL7
          obtain ⟨M7, rfl⟩ : ∃ M7, L7 = y.1 :: M7 := by
            cases L7 with
            | nil => cases hL7
            | cons a b => exact ⟨b, by rw [show a = y.1 from Option.some.inj hL7]⟩
          rw [comeF_on eE hu] at hco
          refine ⟨m, by omega, TT ++ [(x'.1, (i : Int))], us ++ [t], _, _, w7, y.1 :: M7, _, rfl, cd.r, cd.dd, cd.g, ewd _, nw7H, w7q, cd.k, cd.v, .inl ⟨i + 1, y, by rw [Int.natCast_add]; rfl, rfl, by omega, ?_, by rw [List.length_append, hT]; rfl, ?_⟩⟩
          all_goals
            rw [hmd]
            have e2 : down ((r ++ [x'.1]).filter fun z => !decide (z ∈ List.take 1 (y.1 :: M7))) = EE.erase y.1 := by
              have e3 : ((r ++ [x'.1]).filter fun z => !decide (z ∈ List.take 1 (y.1 :: M7))) = (r ++ [x'.1]).erase y.1 := by
                rw [List.Nodup.erase_eq_filter ndE']
                refine List.filter_congr fun a _ => ?_
                show (!decide (a ∈ [y.1])) = (a != y.1)
                by_cases h : a = y.1 <;> simp [h]
              rw [e3, hEE]
              exact (down_is ((down_perm _).erase y.1) ((down_sorted _).sublist List.erase_sublist)).symm
            rw [e2]
          · exact hM'
          · rw [hco, List.append_assoc]
            rfl
      · exact iteF (hX _ _ ⟨us, sts3, S3, _, _, rfl, R4, hSS, d4, G4, k4, v4⟩)
    · obtain ⟨us, sts', S', wk', i', rfl, R3, hS3, d3, G3, k3, v3⟩ := hE
      exact ⟨_, rfl, q1 _ _ _ _ _ (R3.weaken fun b z => z.1) hS3 d3 G3 k3 v3⟩
end
end El
namespace El
open PySem PySem.Spec PyProof.Rows L2
section
variable {P : Program} {w : World} {K : PySem.W.Frag} {mg : Str → Option Value} {base : Heap}
abbrev s__law_goes : Stmt := topS 19
abbrev N__law_goes : List Str := ["stand", "folk", "old", "spot", "told", "calm", "at", "one", "room", "other"]
abbrev P__law_goes : List Str := ["stand", "folk", "old"]
theorem sc__law_goes : FnScope N__law_goes P__law_goes (defScope s__law_goes) := ⟨rfl, rfl, rfl, by decide +kernel, rfl, by decide +kernel, by decide +kernel⟩
def sp__law_goes : Sp := fun vs H Q _ => ∃ (B : Addr → Prop) (o d : Addr) (sts : List Addr) (S : List (List Int)) (gs : List (Int × Int)) (a : Int), vs = [.ref o, .ref d, .int a] ∧ RmsAt H B o sts S ∧ H d = some (.dK (pks gs)) ∧ S.map down = settle gs ∧ Fit gs ∧ a ∈ gs.map (·.1) ∧ gs.length ≤ 400 ∧
  ∀ (H' : Hp) (q : Addr) (us sts' : List Addr) (S' : List (List Int)), RmsAt H' (NewOr B H q) o sts' S' → S'.map down = settle (butA gs a) → H' d = some (.dK (pks (butA gs a))) → GsAt H' (fun b => H b = none) q us (goT gs a) → Kp (fun b => b ≠ o ∧ b ≠ d) H H' → (∀ b, H' b = none → H b = none) → Q (.ref q) H'
/-- how it stands within _law_goes -/
structure Lg (B : Addr → Prop) (H : Hp) (o d q : Addr) (gs T : List (Int × Int)) (us : List Addr) (Hn : Hp) (sts : List Addr) (S : List (List Int)) : Prop where
  r : RmsAt Hn (NewOr B H q) o sts S
  dd : Hn d = some (.dK (pks gs))
  g : GsAt Hn (fun b => H b = none) q us T
  k : Kp (fun b => b ≠ o ∧ b ≠ d) H Hn
  v : ∀ b, Hn b = none → H b = none
  od : o ≠ d
  lo : ∃ y, H o = some y
  ld : ∃ y, H d = some y
theorem Lg.same {B : Addr → Prop} {H : Hp} {o d q : Addr} {gs T : List (Int × Int)} {us : List Addr} {Hn Hm : Hp} {sts : List Addr} {S : List (List Int)} (c : Lg B H o d q gs T us Hn sts S) (s : Same Hn Hm) : Lg B H o d q gs T us Hm sts S :=
  ⟨c.r.same s, s _ _ c.dd, c.g.same s, c.k.trans (.of s), fun b e => c.v b (s.free e), c.od, c.lo, c.ld⟩
theorem live_ne {H : Hp} {o b : Addr} (l : ∃ y, H o = some y) (e : H b = none) : b ≠ o := fun z => by
  obtain ⟨y, ey⟩ := l
  rw [← z, e] at ey
  cases ey
theorem Lg.top {B : Addr → Prop} {H : Hp} {o d q : Addr} {gs T : List (Int × Int)} {us : List Addr} {Hn : Hp} {sts sts' : List Addr} {S S' : List (List Int)} {v : HO} (c : Lg B H o d q gs T us Hn sts S) (r : RmsAt (upd Hn o v) (NewOr B H q) o sts' S') : Lg B H o d q gs T us (upd Hn o v) sts' S' :=
  ⟨r, by rw [upd_ne c.od.symm]; exact c.dd, c.g.newTop' (fun b m => live_ne c.lo (m.elim (fun z => z ▸ c.g.ba) (c.g.b b))) (Kp.mut Kp.refl fun z => z rfl), c.k.mut (fun z => z.1 rfl), upd_live c.v, c.od, c.lo, c.ld⟩
theorem Lg.say {B : Addr → Prop} {H : Hp} {o d q : Addr} {gs T : List (Int × Int)} {us : List Addr} {Hn : Hp} {sts : List Addr} {S : List (List Int)} (c : Lg B H o d q gs T us Hn sts S) {t : Addr} {x : Int × Int} (nt : Hn t = none) :
    Lg B H o d q gs (T ++ [x]) (us ++ [t]) (upd (upd Hn t (.tup [.int x.1, .int x.2])) q (.lst (us.map V.ref ++ [.ref t]))) sts S := by
  have ct := c.same (same_new (o := .tup [.int x.1, .int x.2]) nt)
  have qd : d ≠ q := (live_ne c.ld c.g.ba).symm
  exact ⟨ct.r.keep (Kp.mut Kp.refl fun z => z.2 rfl), by rw [upd_ne qd]; exact ct.dd, ct.g.push ct.g.offTs (q := t) (g := x) upd_same (c.v t nt), ct.k.mutF ct.g.ba, upd_live ct.v, ct.od, ct.lo, ct.ld⟩
/-- another list in the place of room i -/
theorem Lg.put {B : Addr → Prop} {H : Hp} {o d q : Addr} {gs T : List (Int × Int)} {us : List Addr} {Hn Hm : Hp} {sts : List Addr} {S : List (List Int)} (c : Lg B H o d q gs T us Hn sts S) (s : Same Hn Hm) {i : Nat} {v : Addr} {r : List Int} (hi : i < S.length) (nv : Hn v = none) (ev : Hm v = some (.lst (r.map V.int))) :
    Lg B H o d q gs T us (upd Hm o (.lst ((sts.set i v).map V.ref))) (sts.set i v) (S.set i r) := by
  have cm := c.same s
  refine cm.top (cm.r.put hi ev ⟨.inr (c.v v nv), no_of c.g.top nv⟩ (fun m => ?_) (no_of c.r.top nv))
  obtain ⟨y, ey⟩ := c.r.lives m
  rw [nv] at ey
  cases ey
def LgW (B : Addr → Prop) (H : Hp) (o d q : Addr) (gs : List (Int × Int)) (a : Int) (len : Nat) (TT : List (Int × Int)) (m : Nat) (σ : L2.St) (H2 : Hp) : Prop :=
  ∃ (T : List (Int × Int)) (us sts : List Addr) (S : List (List Int)) (y3 : V) (y5 y6 y7 : Option V), σ = [some (.ref o), some (.ref d), some (.int a), some y3, some (.ref q), y5, y6, y7, none, none] ∧ Lg B H o d q gs T us H2 sts S ∧
    ((∃ n k : Nat, y3 = .int n ∧ Hole gs (S.map down) n ∧ S.length = len ∧ m + n = len + 1 ∧ len ≤ k + n ∧ T.length ≤ n ∧ TT = T ++ goF k gs (S.map down) n) ∨ (y3 = .non ∧ m = 0 ∧ T = TT ∧ ∃ j, S.map down = settle gs ++ List.replicate j []))
theorem last_room (S : List (List Int)) : S = [] ∨ ∃ T r, S = T ++ [r] := by
  rcases List.eq_nil_or_concat S with h | ⟨r, y, h⟩
  · exact .inl h
  · exact .inr ⟨r, y, by rw [h, List.concat_eq_append]⟩
theorem ok__law_goes (A : At K mg "_law_goes" P__law_goes s__law_goes) (B : Bi mg) : Df P w K mg base 1 "_law_goes" P__law_goes s__law_goes sp__law_goes := by
  refine A.df fun f fd F => F.ok sc__law_goes (fun vs H Q E h => ?_) (fun cdv AA outer s H vs Q E hr h => ?_)
  · obtain ⟨_, _, _, _, _, _, _, rfl, _⟩ := h
    rfl
  · obtain ⟨BB, o, d, sts, S, gs, a, rfl, hR, hd, hS, hF, ha, hl, q1⟩ := h
    have nd := sc__law_goes.nd
    refine ⟨_, (pss_cons (ps_set (i := 3) nd rfl (.inl rfl) (pe_bm PySem.F.plainAttrs_list PySem.F.slot_list_index PySem.F.type_list_index (mtIndexK K) (pe_lc (own := [("room", 8)]) (tt := tYes) rfl nd (pi_list (pv 0)) (blkOk_by (N := N__law_goes) (sc := defScope s__law_goes) (by decide +kernel)) (fun _ _ _ _ _ => (pg_name (i := 8) nd rfl (.inl rfl))) (fun _ _ _ _ _ => pts_nil) (fun _ _ _ _ _ => (pe_cmpR (inK K) (pv 2) (pv 8) (by rfl)))) (pa_cons pe_bl pa_nil)))
    (pss_cons (ps_asg (pe_lc (own := [("one", 7)]) rfl nd (pi_list (pe_ix ix_list (pv 0) (pv 3) (fun _ _ => rfl))) (blkOk_by (N := N__law_goes) (sc := defScope s__law_goes) (by decide +kernel)) (fun _ _ _ _ _ => (pg_name (i := 7) nd rfl (.inl rfl))) (fun _ _ _ _ _ => (pts_one (pt_cmpR op_ne (pv 7) (pv 2) (nomark _)))) (fun _ _ _ _ _ => (pv 7))) (pg_sub (pv 0) (pv 3) set_list))
    (pss_cons (ps_expr (pe_dpop1 (pv 1) (pv 2) ⟨rfl, rfl, rfl, rfl⟩))
    (pss_cons (ps_set (i := 4) nd rfl (.inl rfl) (pe_lst pa_nil))
    (pss_cons (ps_while PassesOwn.never (pt_cmpR op_notN (pv 3) pe_non (nomark _)) (pss_cons (ps_set (i := 5) nd rfl (.inl rfl) (pe_lst pa_nil)) (pss_cons (ps_for PassesOwn.never rfl (pi_range2 (by rfl) B.range (pa_cons (pe_op op_add (pv 3) pe_int) (pa_cons (pe_callB call_len_seq (by rfl) B.len PySem.boot_len (pa_cons (pv 0) pa_nil)) pa_nil))) (pg_name (i := 6) nd rfl (.inl rfl)) (pss_one (ps_for PassesOwn.never rfl (pi_list (pe_ix ix_list (pv 0) (pv 6) (fun _ _ => rfl))) (pg_name (i := 7) nd rfl (.inr rfl)) (pss_one (ps_if (pt_cmpR op_le (pe_callB call_len_seq (by rfl) B.len PySem.boot_len (pa_cons (pe_lc (own := [("other", 9)]) rfl nd (pi_list (pe_ix ix_list (pv 0) (pv 3) (fun _ _ => rfl))) (blkOk_by (N := N__law_goes) (sc := defScope s__law_goes) (by decide +kernel)) (fun _ _ _ _ _ => (pg_name (i := 9) nd rfl (.inl rfl))) (fun _ _ _ _ _ => (pts_one (pt_cmpR op_gt (pv 9) (pv 7) (nomark _)))) (fun _ _ _ _ _ => (pv 9))) pa_nil)) (pe_dget (hu_of hr) (pv 1) (pv 7) (fun _ _ => rfl)) (nomark _)) (pss_one (ps_expr (pe_bm PySem.F.plainAttrs_list PySem.F.slot_list_append PySem.F.type_list_append mt_append (pv 5) (pa_cons (pe_tup (pa_cons (pv 7) (pa_cons (pv 6) pa_nil))) pa_nil)))) pss_nil))))) (pss_one (ps_if (pt_cmpR (op_eqD hr.units) (pv 5) (pe_lst pa_nil) (nomark _)) (pss_one (ps_set (i := 3) nd rfl (.inl rfl) pe_non)) (pss_cons (ps_asg (pe_callB (cr_maxP K hr.units rfl) (by rfl) B.max (by decide +kernel) (pa_cons (pv 5) pa_nil)) (pg_tup (by rfl) (pgs_cons (pg_name (i := 7) nd rfl (.inr rfl)) (pgs_cons (pg_name (i := 6) nd rfl (.inl rfl)) pgs_nil)))) (pss_cons (ps_asg (pe_lc (own := [("other", 9)]) rfl nd (pi_list (pe_ix ix_list (pv 0) (pv 6) (fun _ _ => rfl))) (blkOk_by (N := N__law_goes) (sc := defScope s__law_goes) (by decide +kernel)) (fun _ _ _ _ _ => (pg_name (i := 9) nd rfl (.inl rfl))) (fun _ _ _ _ _ => (pts_one (pt_cmpR op_ne (pv 9) (pv 7) (nomark _)))) (fun _ _ _ _ _ => (pv 9))) (pg_sub (pv 0) (pv 6) set_list)) (pss_cons (ps_asg (pe_op op_cat (pe_ix ix_list (pv 0) (pv 3) (fun _ _ => rfl)) (pe_lst (pa_cons (pv 7) pa_nil))) (pg_sub (pv 0) (pv 3) set_list)) (pss_cons (ps_expr (pe_bm PySem.F.plainAttrs_list PySem.F.slot_list_append PySem.F.type_list_append mt_append (pv 4) (pa_cons (pe_tup (pa_cons (pv 7) (pa_cons (pv 3) pa_nil))) pa_nil))) (pss_one (ps_set (i := 3) nd rfl (.inl rfl) (pv 6))))))))))))
    (pss_cons (ps_while PassesOwn.never (PW.pt (pw_and (pt_cmpR (op_neD hr.units) (pv 0) (pe_lst pa_nil) (nomark _)) (pw_and1 (pt_cmpR (op_eqD hr.units) (pe_ix ix_list (pv 0) (pe_un un_neg pe_int) (fun _ _ => rfl)) (pe_lst pa_nil) (nomark _))))) (pss_one (ps_expr (pe_bm0 PySem.F.plainAttrs_list PySem.F.slot_list_pop PySem.F.type_list_pop mt_pop (pv 0)))))
    (pss_one (ps_ret (pv 4))))))))), ?_⟩
    have hod : o ≠ d := fun z => by
      have e := hR.top
      rw [z, hd] at e
      cases e
    obtain ⟨x, hx, rfl⟩ := List.mem_map.mp ha
    obtain ⟨n, R, eR, xR, ndR, only, hH⟩ := Hole.start hF hx
    have lset : (settle gs).length ≤ gs.length := by
      have := settleL_len (byAge gs)
      rw [byAge_length] at this
      exact this
    have hSl : S.length = (settle gs).length := by rw [← hS, List.length_map]
    have hn : n < (settle gs).length := at_lt eR
    have hw : whereI (settle gs) x.1 = n := whereI_is eR xR only
    have egT : goT gs x.1 = goF (settle gs).length (butA gs x.1) ((settle gs).set n (R.erase x.1)) n := by
      unfold goT
      rw [hw, List.getD_eq_getElem?_getD, eR]
      rfl
    have F2 : Fit (butA gs x.1) := hF.without x.1
    have l2 : (butA gs x.1).length ≤ gs.length := List.length_filter_le _ _
    obtain ⟨r, er⟩ := at_some (l := S) (i := n) (by omega)
    have hdr : down r = R := by
      rw [← hS, List.getElem?_map, er] at eR
      exact Option.some.inj eR
    have ndr : r.Nodup := by
      rw [← hdr] at ndR
      exact (down_perm r).nodup_iff.mp ndR
    have inr : ∀ (j : Nat) (r : List Int), S[j]? = some r → x.1 ∈ r → j = n := fun j r ej m => only j (down r) (by rw [← hS, List.getElem?_map, ej]; rfl) ((down_perm r).mem_iff.mpr m)
    -- spot = [old in room for room in stand].index(True)
    refine ⟨_, rfl, o, rfl, ⟨_, hR.seq⟩, fun D nD => ?_⟩
    refine lc_it (walk_list (xs := sts.map V.ref)) (fun k H2 => Same H H2 ∧ H2 D = some (.lst ((S.take k).map fun r => V.bl (decide (x.1 ∈ r))))) ⟨same_new nD, upd_same⟩ (fun k H2 _ hW => (hR.same hW.1).seq) (fun k z H2 H3 hk hW hY => ?_) (fun H2 hW => ?_)
    · obtain ⟨sm, eD⟩ := hW
      obtain ⟨rfl, hx⟩ := hY
      obtain ⟨t, r, rfl, _, er, et⟩ := (hR.same sm).get hx
      refine ⟨rfl, .int x.1, rfl, .ref t, rfl, t, _, rfl, .inl (SqL.of et), rfl, flat_ints r, _, eD, ils ?_, Same.mut sm nD, ?_⟩
      · rw [List.length_map, List.length_take]
        omega
      · rw [upd_same, take_snoc er, List.map_append]
        show some (HO.lst (_ ++ [V.bl (inV (.int x.1) (r.map V.int))])) = _
        rw [inV_ints]
        rfl
    · obtain ⟨sm, eD⟩ := hW
      rw [List.length_map, hR.len, List.take_length] at eD
      have R2 := hR.same sm
      have d2 := sm _ _ hd
      refine ⟨.inl ⟨rfl, _, SqL.of eD⟩, D, _, .bl true, n, .bl true, rfl, rfl, SqL.of eD, rfl, ?_, ?_, rfl, fun j z hj ez => ?_, ?_⟩
      · rw [List.all_map, List.all_eq_true]
        intro r _
        rfl
      · rw [List.getElem?_map, er]
        show some (V.bl (decide (x.1 ∈ r))) = _
        rw [decide_eq_true ((down_perm r).mem_iff.mp (by rw [hdr]; exact xR))]
      · rw [List.getElem?_map] at ez
        cases er : S[j]? with
        | none =>
          rw [er] at ez
          cases ez
        | some r =>
          rw [er] at ez
          obtain rfl : V.bl (decide (x.1 ∈ r)) = z := Option.some.inj ez
          rw [decide_eq_false fun y => absurd (inr j r er y) (by omega)]
          rfl
      clear eD
      dsimp only [gName]
      -- stand[spot] = [one for one in stand[spot] if one != old]
      obtain ⟨t, et, eht⟩ := R2.of er
      have at2 : (sts.map V.ref)[n]? = some (.ref t) := by
        rw [List.getElem?_map, et]
        rfl
      have lrm : r.length ≤ 1000 := by
        have := settleL_room (gs := byAge gs) (List.mem_of_getElem? eR)
        rw [byAge_length, ← hdr, (down_perm r).length_eq] at this
        omega
      refine ⟨.ref o, rfl, .int n, rfl, o, _, _, .ref t, rfl, rfl, SqL.of R2.top, atI_nat (j := n) at2, t, rfl, ⟨_, SqL.of eht⟩, fun D2 nD2 => ?_⟩
      refine lc_sel (fun z => !decide (z = x.1)) eht nD2 lrm (fun z H' Q h => ⟨.int z, rfl, .int x.1, rfl, rfl, _, rfl, by
        rw [show decide (V.int z = V.int x.1) = decide (z = x.1) from by
          by_cases h : z = x.1
          · rw [h, decide_eq_true rfl, decide_eq_true rfl]
          · rw [decide_eq_false h, decide_eq_false fun y => h (V.int.inj y)]]
        exact h⟩) (fun z H' Q h => ⟨.int z, rfl, h⟩) (fun _ => rfl) (fun H3 s3 e3 => ?_)
      have sH3 := sm.trans s3
      have R3 := R2.same s3
      have nDH : H D2 = none := sm.free nD2
      have hnS : n < S.length := by omega
      refine ⟨.ref o, rfl, .int n, rfl, o, _, _, n, rfl, rfl, R3.top, ixN_of (by rw [List.length_map, R3.len]; exact hnS), ?_⟩
      have Dn : D2 ∉ sts := fun m => by
        obtain ⟨y, ey⟩ := R2.lives m
        rw [nD2] at ey
        cases ey
      have R4 := (R3.weaken (B' := fun b => BB b ∨ H b = none) fun b z => .inl z).put hnS e3 (.inr nDH) Dn (no_of R2.top nD2)
      rw [List.map_set] at R4
      have d4 : upd H3 o (.lst ((sts.map V.ref).set n (V.ref D2))) d = some (.dK (pks gs)) := by
        rw [upd_ne hod.symm]
        exact sH3 _ _ hd
      have k4 : Kp (fun b => b ≠ o ∧ b ≠ d) H (upd H3 o (.lst ((sts.map V.ref).set n (V.ref D2)))) := Kp.mut (Kp.of sH3) fun z => z.1 rfl
      have v4 : ∀ b, upd H3 o (.lst ((sts.map V.ref).set n (V.ref D2))) b = none → H b = none := upd_live fun b e => sH3.free e
      revert R4 d4 k4 v4
      generalize upd H3 o (.lst ((sts.map V.ref).set n (V.ref D2))) = H4
      intro R4 d4 k4 v4
      -- folk.pop(old)
      refine ⟨.ref d, rfl, d, rfl, .inl ⟨_, .inl d4⟩, .int x.1, rfl, _, Sum.inl x.1, _, d4, rfl, pks_is hF.nd ha, ?_⟩
      rw [pks_drop]
      have R5 : RmsAt (upd H4 d (.dK (pks (butA gs x.1)))) (fun b => BB b ∨ H b = none) o (sts.set n D2) (S.set n (r.filter fun z => !decide (z = x.1))) := R4.newTop (fun b u m e => by
        have : b ≠ d := by
          rcases m with rfl | m
          · exact hod
          · intro z
            obtain ⟨y, ey⟩ := R4.lives m
            rw [z, d4] at ey
            cases ey
        rw [upd_ne this]
        exact e) fun b m => by
          rcases m with rfl | m
          · exact R4.bo
          · exact R4.b b m
      have d5 : upd H4 d (.dK (pks (butA gs x.1))) d = some (.dK (pks (butA gs x.1))) := upd_same
      have k5 : Kp (fun b => b ≠ o ∧ b ≠ d) H (upd H4 d (.dK (pks (butA gs x.1)))) := k4.mut fun z => z.2 rfl
      have v5 : ∀ b, upd H4 d (.dK (pks (butA gs x.1))) b = none → H b = none := upd_live v4
      revert R5 d5 k5 v5
      generalize upd H4 d (.dK (pks (butA gs x.1))) = H5
      intro R5 d5 k5 v5
      -- told = []
      refine ⟨Nat.zero_le _, fun q nq => ?_⟩
      have L6 : Lg BB H o d q (butA gs x.1) [] [] (upd H5 q (.lst [])) (sts.set n D2) (S.set n (r.filter fun z => !decide (z = x.1))) := by
        have sq := same_new (o := .lst []) nq
        refine ⟨(R5.reL (B' := NewOr BB H q) fun b z hb => ⟨hb, fun e => ?_⟩).same sq, sq _ _ d5, ⟨upd_same, v5 q nq, rfl, fun i t g e _ => by simp at e, fun t m => by simp at m⟩, k5.new nq, fun b e => v5 b (sq.free e), hod, ⟨_, hR.top⟩, ⟨_, hd⟩⟩
        obtain ⟨v, ev⟩ := z
        rw [e, nq] at ev
        cases ev
      have eS6 : (S.set n (r.filter fun z => !decide (z = x.1))).map down = (settle gs).set n (R.erase x.1) := by
        rw [List.map_set, hS, down_without ndr, hdr]
      have lS6 : (S.set n (r.filter fun z => !decide (z = x.1))).length = (settle gs).length := by rw [List.length_set, hSl]
      rw [← eS6] at egT hH
      revert L6 eS6 lS6 egT hH
      generalize upd H5 q (.lst []) = H6
      generalize S.set n (r.filter fun z => !decide (z = x.1)) = S6
      generalize sts.set n D2 = sts6
      intro hH egT L6 eS6 lS6
      dsimp only [gName]
      have lens : ∀ {rs : List (List Int)} {m : Nat}, Hole (butA gs x.1) rs m → rs.flatten.length ≤ 400 := fun hh => by
        obtain ⟨h1, h2, _⟩ := hh.step F2
        have := List.Nodup.length_le_of_subset h1 h2
        rw [List.length_map] at this
        omega
      refine seq_to (fun σ H7 => ∃ us sts S y5 y6 y7 j, σ = [some (.ref o), some (.ref d), some (.int x.1), some .non, some (.ref q), y5, y6, y7, none, none] ∧ Lg BB H o d q (butA gs x.1) (goT gs x.1) us H7 sts S ∧ S.map down = settle (butA gs x.1) ++ List.replicate j []) (fun X hX => ?_) (fun σ H7 hE => ?_)
      · refine while_to (LgW BB H o d q (butA gs x.1) x.1 (settle gs).length (goT gs x.1)) (fun σ H7 => ∃ us sts S y5 y6 y7 j, σ = [some (.ref o), some (.ref d), some (.int x.1), some .non, some (.ref q), y5, y6, y7, none, none] ∧ Lg BB H o d q (butA gs x.1) (goT gs x.1) us H7 sts S ∧ S.map down = settle (butA gs x.1) ++ List.replicate j [])
          ⟨(settle gs).length + 1 - n, [], [], sts6, S6, .int n, none, none, none, rfl, L6, .inl ⟨n, (settle gs).length, rfl, hH, lS6, by omega, by omega, Nat.zero_le _, egT⟩⟩ hX (fun X hX m σ H7 hW => ?_)
        clear egT hH L6 eS6 lS6 R5 d5 k5 v5 R4 d4 k4 v4 R3 R2
        obtain ⟨TT, us, sts7, S7, y3, y5, y6, y7, rfl, L7, ⟨n', k, rfl, hh, hSl7, hmn, hk, hTl, hT⟩ | ⟨rfl, rfl, rfl, j, ej⟩⟩ := hW
        · refine ⟨_, rfl, rfl, _, rfl, ifYes (by show (!decide (V.int n' = V.non)) = true; simp) ?_⟩
          refine ⟨fun σ' H' => ∃ m', m' < m ∧ LgW BB H o d q (butA gs x.1) x.1 (settle gs).length (goT gs x.1) m' σ' H', fun σ' H' h => h, ?_⟩
          obtain ⟨h1, h2, R', eR', out⟩ := hh.step F2
          have hl400 := lens hh
          have hn' : n' < S7.length := by
            have := at_lt eR'
            rw [List.length_map] at this
            exact this
          obtain ⟨r0, er0⟩ := at_some hn'
          have hR' : down r0 = R' := by
            rw [List.getElem?_map, er0] at eR'
            exact Option.some.inj eR'
          have lflat : S7.flatten.length ≤ 400 := by
            rw [← (flat_down S7).length_eq]
            exact hl400
          have lr0 : r0.length ≤ 400 := Nat.le_trans (room_le_flat _ _ (List.mem_of_getElem? er0)) lflat
          have elds : ∀ z, eldN r0 z = eldN R' z := fun z => by rw [← hR']; exact eldN_perm (down_perm r0).symm z
          -- calm = []
          refine ⟨Nat.zero_le _, fun c nc => ?_⟩
          dsimp only [gName]
          refine seq_to (fun σ Hn => ∃ CL cts y6 y7, σ = [some (.ref o), some (.ref d), some (.int x.1), some (.int n'), some (.ref q), some (.ref c), y6, y7, none, none] ∧ Same H7 Hn ∧ GsAt Hn (fun b => H7 b = none) c cts CL ∧ (∀ p ∈ CL, ∃ (m : Nat) (r : List Int), p.2 = m ∧ n' < m ∧ S7[m]? = some r ∧ p.1 ∈ r ∧ bearB (butA gs x.1) R' p.1 = true) ∧
              (∀ (m : Nat) (r : List Int) (z : Int), n' < m → S7[m]? = some r → z ∈ r → bearB (butA gs x.1) R' z = true → (z, (m : Int)) ∈ CL) ∧ CL.length ≤ 400) (fun Y hY => ?_) (fun σ Hn hE => ?_)
          · have L8 := L7.same (same_new (o := .lst []) nc)
            refine ⟨.int n', rfl, _, _, rfl, rfl, .ref o, rfl, o, _, rfl, .inl L8.r.seq, _, _, rfl, ⟨by omega, by omega, by omega, ?_⟩, ?_⟩
            · rw [List.length_map, L8.r.len]
              omega
            have hcount : ((((sts7.map V.ref).length : Nat) : Int) - ((n' : Int) + 1)).toNat = S7.length - (n' + 1) := by
              rw [List.length_map, L8.r.len]
              omega
            rw [hcount]
            refine for_it walk_range (fun i σ Hn => ∃ CL cts y6 y7, σ = [some (.ref o), some (.ref d), some (.int x.1), some (.int n'), some (.ref q), some (.ref c), y6, y7, none, none] ∧ Same H7 Hn ∧ GsAt Hn (fun b => H7 b = none) c cts CL ∧ (∀ p ∈ CL, ∃ (m : Nat) (r : List Int), p.2 = m ∧ n' < m ∧ S7[m]? = some r ∧ p.1 ∈ r ∧ bearB (butA gs x.1) R' p.1 = true) ∧
                (∀ (m : Nat) (r : List Int) (z : Int), n' < m → m < n' + 1 + i → S7[m]? = some r → z ∈ r → bearB (butA gs x.1) R' z = true → (z, (m : Int)) ∈ CL) ∧ CL.length ≤ ((S7.drop (n' + 1)).take i).flatten.length)
              ⟨[], [], y6, y7, rfl, same_new nc, ⟨upd_same, nc, rfl, fun i t g e _ => by simp at e, fun t m => by simp at m⟩, fun p m => by simp at m, fun m r z h1 h2 => absurd h2 (by omega), Nat.zero_le _⟩ (fun _ _ _ _ _ => trivial) (fun i v σ Hn Hm hi hW hY2 => ?_) (fun σ Hn hW => ?_)
            · obtain ⟨CL, cts, y6, y7, rfl, sN, GC, snd, cmp, lC⟩ := hW
              obtain ⟨rfl, rfl⟩ := hY2
              dsimp only [gName]
              have eat : ((n' : Int) + 1 + (i : Nat)) = ((n' + 1 + i : Nat) : Int) := by omega
              rw [eat]
              obtain ⟨r1, er1⟩ := at_some (l := S7) (i := n' + 1 + i) (by omega)
              have erd : (S7.drop (n' + 1))[i]? = some r1 := by
                rw [List.getElem?_drop]
                exact er1
              have lfl : ((S7.drop (n' + 1)).take (i + 1)).flatten.length ≤ 400 := Nat.le_trans (flat_take_le _ _) (Nat.le_trans (flat_drop_le _ _) lflat)
              rw [take_snoc_flat erd, List.length_append] at lfl
              obtain ⟨t1, et1, eh1⟩ := L7.r.of er1
              have at1 : (sts7.map V.ref)[n' + 1 + i]? = some (.ref t1) := by
                rw [List.getElem?_map, et1]
                rfl
              obtain ⟨t0, et0, eh0⟩ := L7.r.of er0
              have at0 : (sts7.map V.ref)[n']? = some (.ref t0) := by
                rw [List.getElem?_map, et0]
                rfl
              refine ⟨.ref o, rfl, _, rfl, o, _, _, .ref t1, rfl, rfl, SqL.of (sN _ _ L7.r.top), atI_nat (j := n' + 1 + i) at1, t1, rfl, ⟨_, SqL.of (sN _ _ eh1)⟩, ?_⟩
              refine for_it (walk_list (xs := r1.map V.int)) (fun j σ Hn => ∃ CL cts y7, σ = [some (.ref o), some (.ref d), some (.int x.1), some (.int n'), some (.ref q), some (.ref c), some (.int ((n' + 1 + i : Nat) : Int)), y7, none, none] ∧ Same H7 Hn ∧ GsAt Hn (fun b => H7 b = none) c cts CL ∧ (∀ p ∈ CL, ∃ (m : Nat) (r : List Int), p.2 = m ∧ n' < m ∧ S7[m]? = some r ∧ p.1 ∈ r ∧ bearB (butA gs x.1) R' p.1 = true) ∧
                  (∀ (m : Nat) (r : List Int) (z : Int), n' < m → m < n' + 1 + i → S7[m]? = some r → z ∈ r → bearB (butA gs x.1) R' z = true → (z, (m : Int)) ∈ CL) ∧ (∀ z ∈ r1.take j, bearB (butA gs x.1) R' z = true → (z, ((n' + 1 + i : Nat) : Int)) ∈ CL) ∧ CL.length ≤ ((S7.drop (n' + 1)).take i).flatten.length + j)
                ⟨CL, cts, y7, rfl, sN, GC, snd, cmp, fun z m => by simp at m, lC⟩ (fun j σ Hn _ hW => ?_) (fun j v σ Hn Ho hj hW hY2 => ?_) (fun σ Hn hW => ?_)
              · obtain ⟨_, _, _, _, sN, _⟩ := hW
                exact SqL.of (sN _ _ eh1)
              · obtain ⟨CL, cts, y7, rfl, sN, GC, snd, cmp, cmp2, lC⟩ := hW
                obtain ⟨rfl, hv⟩ := hY2
                obtain ⟨z, ez, rfl⟩ := ints_at hv
                have hj' := at_lt ez
                have zin : z ∈ (butA gs x.1).map (·.1) := h2 z ((flat_down S7).mem_iff.mpr (List.mem_flatten.mpr ⟨r1, List.mem_of_getElem? er1, List.mem_of_getElem? ez⟩))
                refine ⟨.ref o, rfl, _, rfl, o, _, _, .ref t0, rfl, rfl, SqL.of (sN _ _ L7.r.top), atI_nat (j := n') at0, t0, rfl, ⟨_, SqL.of (sN _ _ eh0)⟩, fun D3 nD3 => ?_⟩
                refine lc_sel (fun y => decide (z < y)) (sN _ _ eh0) nD3 (by omega) (fun y H' Q h => ⟨.int y, rfl, .int z, rfl, _, _, rfl, rfl, _, rfl, h⟩) (fun y H' Q h => ⟨.int y, rfl, h⟩) (fun _ => rfl) (fun Hp sP eP => ?_)
                have sNp := sN.trans sP
                have GP := GC.same sP
                refine ⟨D3, _, rfl, .inl (SqL.of eP), .ref d, rfl, .int z, rfl, d, _, rfl, dget_pof (sNp _ _ L7.dd) F2.nd zin, _, _, rfl, rfl, _, rfl, ?_⟩
                rw [List.length_map]
                have eb : decide ((((r0.filter fun y => decide (z < y)).length : Nat) : Int) ≤ pof (butA gs x.1) z) = bearB (butA gs x.1) R' z := by
                  unfold bearB
                  rw [← elds z]
                  rfl
                rw [eb]
                by_cases hb : bearB (butA gs x.1) R' z = true
                · refine ifYes hb ⟨.ref c, rfl, .inl ⟨rfl, _, GP.seq⟩, .int z, rfl, _, rfl, (by show 2 ≤ sizeLine; decide), fun tt nt => ⟨c, _, .ref tt, rfl, rfl, (same_new nt) _ _ GP.top, ils (by rw [List.length_map, GP.len]; omega), ?_⟩⟩
                  have st := same_new (o := .tup [.int z, .int ((n' + 1 + i : Nat) : Int)]) nt
                  have GQ := (GP.same st).push GP.offTs (g := (z, ((n' + 1 + i : Nat) : Int))) upd_same (sNp.free nt)
                  refine ⟨CL ++ [(z, ((n' + 1 + i : Nat) : Int))], cts ++ [tt], _, rfl, Same.mut (sNp.trans st) GC.ba, GQ, fun p m => ?_, fun m r z' a1 a2 a3 a4 a5 => List.mem_append_left _ (cmp m r z' a1 a2 a3 a4 a5), fun z' m hb' => ?_, ?_⟩
                  · rcases List.mem_append.mp m with m | m
                    · exact snd p m
                    · rw [List.mem_singleton.mp m]
                      exact ⟨n' + 1 + i, r1, rfl, by omega, er1, List.mem_of_getElem? ez, hb⟩
                  · rw [take_snoc ez] at m
                    rcases List.mem_append.mp m with m | m
                    · exact List.mem_append_left _ (cmp2 z' m hb')
                    · rw [List.mem_singleton.mp m]
                      exact List.mem_append_right _ (List.mem_singleton.mpr rfl)
                  · rw [List.length_append]
                    exact Nat.succ_le_succ lC
                · refine ifNo (by simpa using hb) ⟨CL, cts, _, rfl, sNp, GP, snd, cmp, fun z' m hb' => ?_, by omega⟩
                  rw [take_snoc ez] at m
                  rcases List.mem_append.mp m with m | m
                  · exact cmp2 z' m hb'
                  · rw [List.mem_singleton.mp m] at hb'
                    exact absurd hb' hb
              · obtain ⟨CL, cts, y7, rfl, sN, GC, snd, cmp, cmp2, lC⟩ := hW
                rw [List.length_map] at cmp2 lC
                rw [take_full] at cmp2
                refine ⟨CL, cts, _, y7, rfl, sN, GC, snd, fun m r z a1 a2 a3 a4 a5 => ?_, ?_⟩
                · by_cases hm : m < n' + 1 + i
                  · exact cmp m r z a1 hm a3 a4 a5
                  · obtain rfl : m = n' + 1 + i := by omega
                    obtain rfl : r1 = r := Option.some.inj (er1.symm.trans a3)
                    exact cmp2 z a4 a5
                · rw [take_snoc_flat erd, List.length_append]
                  exact lC
            · obtain ⟨CL, cts, y6, y7, rfl, sN, GC, snd, cmp, lC⟩ := hW
              refine hY _ _ ⟨CL, cts, y6, y7, rfl, sN, GC, snd, fun m r z a1 a3 a4 a5 => cmp m r z a1 ?_ a3 a4 a5, Nat.le_trans lC (Nat.le_trans (flat_take_le _ _) (Nat.le_trans (flat_drop_le _ _) lflat))⟩
              have := at_lt a3
              omega
          · obtain ⟨CL, cts, y6, y7, rfl, sN, GC, snd, cmp, lC⟩ := hE
            have LN := L7.same sN
            -- what the eldest of them is
            have inDrop : ∀ (m : Nat) (r : List Int) (z : Int), n' < m → S7[m]? = some r → z ∈ r → z ∈ ((S7.map down).drop (n' + 1)).flatten := fun m r z a1 a2 a3 => List.mem_flatten.mpr ⟨down r, List.mem_of_getElem? (i := m - (n' + 1)) (by rw [List.getElem?_drop, show n' + 1 + (m - (n' + 1)) = m by omega, List.getElem?_map, a2]; rfl), (down_perm r).mem_iff.mpr a3⟩
            refine ⟨.ref c, rfl, Nat.zero_le _, fun u nu => ?_⟩
            have su := same_new (o := .lst []) nu
            refine ⟨dGs CL, dInts [], (GC.same su).dp, Dp.ints (ns := []) upd_same, (Oks.gs _).shaped, (Oks.ints _).shaped, _, rfl, ?_⟩
            rw [eqv_noGs]
            have LU := LN.same su
            have GU := GC.same su
            have sU := sN.trans su
            revert LU GU sU
            generalize upd Hn u (.lst []) = Hu
            intro LU GU sU
            rcases out with ⟨hno, hne, hem⟩ | ⟨y, m', S', hy1, hy2, hy3, hnm, eS', yS', onlyS, hh2⟩
            · have hC : CL = [] := by
                cases CL with
                | nil => rfl
                | cons p CL =>
                  obtain ⟨m, r, _, a1, a2, a3, a4⟩ := snd p List.mem_cons_self
                  rw [hno p.1 (inDrop m r p.1 a1 a2 a3)] at a4
                  cases a4
              subst hC
              refine ifYes rfl ?_
              have eb := backE_none eR' hno
              have e0 : goF k (butA gs x.1) (S7.map down) n' = [] := by
                cases k with
                | zero => rfl
                | succ k => rw [goF, eb]
              rw [e0, List.append_nil] at hT
              refine ⟨0, by omega, TT, us, sts7, S7, .non, _, _, _, rfl, LU, .inr ⟨rfl, rfl, hT.symm, ?_⟩⟩
              by_cases hz : R' = []
              · exact ⟨1, hem hz⟩
              · exact ⟨0, by rw [hne hz]; simp⟩
            · have hm' : m' < S7.length := by
                have := at_lt eS'
                rw [List.length_map] at this
                exact this
              obtain ⟨s1, es1⟩ := at_some hm'
              have hds : down s1 = S' := by
                rw [List.getElem?_map, es1] at eS'
                exact Option.some.inj eS'
              have ys1 : y ∈ s1 := (down_perm s1).mem_iff.mp (by rw [hds]; exact yS')
              have yC := cmp m' s1 y hnm es1 ys1 hy2
              have hC : CL ≠ [] := fun z => by
                rw [z] at yC
                cases yC
              have ndall : S7.flatten.Nodup := (flat_down S7).nodup_iff.mp h1
              have nds1 : s1.Nodup := by
                obtain ⟨A1, A2, e⟩ := List.append_of_mem (List.mem_of_getElem? es1)
                rw [e, List.flatten_append, List.flatten_cons] at ndall
                exact (List.nodup_append.mp (List.nodup_append.mp ndall).2.1).1
              have hCe : CL.isEmpty = false := by
                cases CL with
                | nil => exact absurd rfl hC
                | cons _ _ => rfl
              rw [hCe]
              refine ifNo rfl ?_
              -- one, at = max(calm)
              refine ⟨.ref c, rfl, _, c, cts, CL, rfl, GU, hC, fun i t g et eg hmax => ?_⟩
              have eht := GU.at' i t g et eg
              have hg : g = (y, (m' : Int)) := by
                obtain ⟨m0, r2, b1, b2, b3, b4, b5⟩ := snd g (List.mem_of_getElem? eg)
                have c1 := hy3 g.1 (inDrop m0 r2 g.1 b2 b3 b4) b5
                have c2 := hmax _ yC
                unfold pLe at c2
                have c3 : g.1 = y := by
                  have : y < g.1 ∨ (y = g.1 ∧ (m' : Int) ≤ g.2) := c2
                  omega
                have c4 := onlyS m0 (down r2) (by rw [List.getElem?_map, b3]; rfl) ((down_perm r2).mem_iff.mpr (by rw [← c3]; exact b4))
                exact Prod.ext c3 (by rw [b1, c4])
              subst hg
              refine ⟨t, _, rfl, SqT.of eht, rfl, .int y, _, rfl, .int (m' : Int), _, rfl, rfl, ?_⟩
              dsimp only [gName]
              -- stand[at] = [other for other in stand[at] if other != one]
              obtain ⟨t1, et1, eh1⟩ := LU.r.of es1
              have at1 : (sts7.map V.ref)[m']? = some (.ref t1) := by
                rw [List.getElem?_map, et1]
                rfl
              have ls1 : s1.length ≤ 400 := Nat.le_trans (room_le_flat _ _ (List.mem_of_getElem? es1)) lflat
              refine ⟨.ref o, rfl, .int (m' : Int), rfl, o, _, _, .ref t1, rfl, rfl, SqL.of LU.r.top, atI_nat (j := m') at1, t1, rfl, ⟨_, SqL.of eh1⟩, fun D3 nD3 => ?_⟩
              refine lc_sel (fun z => !decide (z = y)) eh1 nD3 (by omega) (fun z H' Q h => ⟨.int z, rfl, .int y, rfl, rfl, _, rfl, by
                rw [show decide (V.int z = V.int y) = decide (z = y) from by
                  by_cases h : z = y
                  · rw [h, decide_eq_true rfl, decide_eq_true rfl]
                  · rw [decide_eq_false h, decide_eq_false fun w => h (V.int.inj w)]]
                exact h⟩) (fun z H' Q h => ⟨.int z, rfl, h⟩) (fun _ => rfl) (fun Hp sP eP => ?_)
              have LP := LU.put sP hm' nD3 eP
              refine ⟨.ref o, rfl, .int (m' : Int), rfl, o, _, _, m', rfl, rfl, (LU.same sP).r.top, ixN_of (by rw [List.length_map, LU.r.len]; exact hm'), ?_⟩
              rw [List.map_set] at LP
              revert LP
              generalize upd Hp o (.lst ((sts7.map V.ref).set m' (V.ref D3))) = Hq
              intro LP
              -- stand[spot] = stand[spot] + [one]
              have er8 : (S7.set m' (s1.filter fun z => !decide (z = y)))[n']? = some r0 := by
                rw [List.getElem?_set_ne (by omega)]
                exact er0
              obtain ⟨t8, et8, eh8⟩ := LP.r.of er8
              have at8 : ((sts7.set m' D3).map V.ref)[n']? = some (.ref t8) := by
                rw [List.getElem?_map, et8]
                rfl
              refine ⟨.ref o, rfl, .int (n' : Int), rfl, o, _, _, .ref t8, rfl, rfl, SqL.of LP.r.top, atI_nat (j := n') at8, .int y, rfl, (by show 1 ≤ sizeLine; decide), fun u8 nu8 => ?_⟩
              have s8 := same_new (o := .lst [.int y]) nu8
              refine ⟨t8, u8, _, _, rfl, rfl, s8 _ _ eh8, upd_same, ?_, fun v8 nv8 => ?_⟩
              · rw [List.length_map]
                exact Nat.le_of_lt (ils (n := r0.length + 1) (by omega))
              have ev : r0.map V.int ++ [V.int y] = (r0 ++ [y]).map V.int := by
                rw [List.map_append]
                rfl
              rw [ev]
              have s9 := s8.trans (same_new (o := .lst ((r0 ++ [y]).map V.int)) nv8)
              have hn8 : n' < (S7.set m' (s1.filter fun z => !decide (z = y))).length := by
                rw [List.length_set]
                exact hn'
              have L9 := LP.put s9 hn8 (s8.free nv8) upd_same
              refine ⟨.ref o, rfl, .int (n' : Int), rfl, o, _, _, n', rfl, rfl, (LP.same s9).r.top, ixN_of (by rw [List.length_map, LP.r.len]; exact hn8), ?_⟩
              rw [List.map_set] at L9
              revert L9
              generalize upd (upd (upd Hq u8 (.lst [.int y])) v8 (.lst ((r0 ++ [y]).map V.int))) o (.lst (((sts7.set m' D3).map V.ref).set n' (V.ref v8))) = Hr
              intro L9
              -- told.append((one, spot))
              refine ⟨.ref q, rfl, .inl ⟨rfl, _, L9.g.seq⟩, .int y, rfl, .int (n' : Int), rfl, (by show 2 ≤ sizeLine; decide), fun tt nt => ?_⟩
              refine ⟨q, _, .ref tt, rfl, rfl, (same_new nt) _ _ L9.g.top, ils (by rw [List.length_map, L9.g.len]; omega), ?_⟩
              have LS := L9.say (x := (y, (n' : Int))) nt
              revert LS
              show Lg BB H o d q (butA gs x.1) (TT ++ [(y, (n' : Int))]) (us ++ [tt]) (upd (upd Hr tt (.tup [.int y, .int n'])) q (.lst (us.map V.ref ++ [.ref tt]))) _ _ → _
              generalize upd (upd Hr tt (.tup [.int y, .int n'])) q (.lst (us.map V.ref ++ [.ref tt])) = Hs
              intro LS
              -- spot = at
              refine ⟨_, rfl, ?_⟩
              obtain ⟨k', rfl⟩ : ∃ k', k = k' + 1 := ⟨k - 1, by omega⟩
              have eb := backE_some eR' hy1 hy2 hy3
              have emap : ((S7.set m' (s1.filter fun z => !decide (z = y))).set n' (r0 ++ [y])).map down = ((S7.map down).set m' (S'.erase y)).set n' (down (R' ++ [y])) := by
                rw [List.map_set, List.map_set, down_without nds1, hds, ← hR', down_again]
              have eg2 : goF (k' + 1) (butA gs x.1) (S7.map down) n' = (y, (n' : Int)) :: goF k' (butA gs x.1) (((S7.map down).set m' (S'.erase y)).set n' (down (R' ++ [y]))) m' := by
                rw [goF, eb]
                show (y, (n' : Int)) :: goF k' _ (moveR (S7.map down) (whereI (S7.map down) y) n' y) (whereI (S7.map down) y) = _
                rw [whereI_is eS' yS' onlyS]
                unfold moveR
                rw [List.getD_eq_getElem?_getD, eS', List.getD_eq_getElem?_getD, eR']
                rfl
              refine ⟨m - (m' - n'), by omega, TT ++ [(y, (n' : Int))], us ++ [tt], _, _, .int m', _, _, _, rfl, LS, .inl ⟨m', k', rfl, ?_, ?_, by omega, by omega, ?_, ?_⟩⟩
              · rw [emap]
                exact hh2
              · rw [List.length_set, List.length_set, hSl7]
              · rw [List.length_append]
                exact Nat.le_trans (Nat.succ_le_succ hTl) hnm
              · rw [hT, eg2, emap, List.append_assoc]
                rfl
        · refine ⟨_, rfl, rfl, _, rfl, ifNo (by show (!decide (V.non = V.non)) = false; simp) ?_⟩
          exact hX _ _ ⟨us, sts7, S7, y5, y6, y7, j, rfl, L7, ej⟩
      · obtain ⟨us, sts7, S7, y5, y6, y7, j, rfl, L7, ej⟩ := hE
        refine seq_to (fun σ H8 => ∃ sts S, σ = [some (.ref o), some (.ref d), some (.int x.1), some .non, some (.ref q), y5, y6, y7, none, none] ∧ Lg BB H o d q (butA gs x.1) (goT gs x.1) us H8 sts S ∧ S.map down = settle (butA gs x.1)) (fun X hX => ?_) (fun σ H8 hE => ?_)
        · refine while_to (fun m σ H8 => ∃ sts S, σ = [some (.ref o), some (.ref d), some (.int x.1), some .non, some (.ref q), y5, y6, y7, none, none] ∧ Lg BB H o d q (butA gs x.1) (goT gs x.1) us H8 sts S ∧ S.map down = settle (butA gs x.1) ++ List.replicate m []) (fun σ H8 => ∃ sts S, σ = [some (.ref o), some (.ref d), some (.int x.1), some .non, some (.ref q), y5, y6, y7, none, none] ∧ Lg BB H o d q (butA gs x.1) (goT gs x.1) us H8 sts S ∧ S.map down = settle (butA gs x.1))
            ⟨j, sts7, S7, rfl, L7, ej⟩ hX (fun X hX m σ H8 hW => ?_)
          obtain ⟨sts8, S8, rfl, L8, e8⟩ := hW
          refine ⟨.ref o, rfl, Nat.zero_le _, fun u nu => ?_⟩
          have su := same_new (o := .lst []) nu
          refine ⟨dRows S8, dInts [], (L8.same su).r.dp, Dp.ints (ns := []) upd_same, (Oks.rows _).shaped, (Oks.ints _).shaped, _, rfl, ?_⟩
          rw [eqv_noRows]
          have LU := L8.same su
          revert LU
          generalize upd H8 u (.lst []) = Hu
          intro LU
          rcases last_room S8 with rfl | ⟨S9, r9, rfl⟩
          · refine ifNo rfl (ifNo rfl (hX _ _ ⟨sts8, [], rfl, LU, ?_⟩))
            cases m with
            | zero =>
              rw [e8]
              simp
            | succ m =>
              have := congrArg List.length e8
              simp at this
          · have eE : (S9 ++ [r9]).isEmpty = false := by
              cases S9 <;> rfl
            rw [eE]
            obtain ⟨t9, et9, eh9⟩ := LU.r.of (i := S9.length) (r := r9) (by rw [List.getElem?_append_right (Nat.le_refl _), Nat.sub_self]; rfl)
            have hl9 : sts8.length = S9.length + 1 := by
              rw [LU.r.len, List.length_append]
              rfl
            have ex9 : sts8.map V.ref = (sts8.map V.ref).dropLast ++ [.ref t9] := by
              have hne : sts8.map V.ref ≠ [] := fun z => by
                have := congrArg List.length z
                rw [List.length_map, hl9] at this
                cases this
              have h0 := (List.dropLast_concat_getLast hne).symm
              have h1 : (sts8.map V.ref).getLast hne = .ref t9 := by
                rw [List.getLast_eq_getElem]
                have h2 : (sts8.map V.ref)[S9.length]? = some (.ref t9) := by
                  rw [List.getElem?_map, et9]
                  rfl
                have h3 : (sts8.map V.ref)[(sts8.map V.ref).length - 1]? = some (.ref t9) := by
                  rw [List.length_map, hl9]
                  exact h2
                exact (List.getElem?_eq_some_iff.mp h3).2
              rw [h1] at h0
              exact h0
            have top9 : SqL K Hu o ((sts8.map V.ref).dropLast ++ [.ref t9]) := by
              rw [← ex9]
              exact SqL.of LU.r.top
            refine ifYes rfl ⟨.ref o, rfl, _, rfl, o, _, -1, .ref t9, rfl, rfl, top9, atI_last _ _, Nat.zero_le _, fun u9 nu9 => ?_⟩
            have s9 := same_new (o := .lst []) nu9
            refine ⟨dInts r9, dInts [], Dp.ints (s9 _ _ eh9), Dp.ints (ns := []) upd_same, (Oks.ints _).shaped, (Oks.ints _).shaped, _, rfl, ?_⟩
            rw [eqv_nil]
            have LV := LU.same s9
            revert LV
            generalize upd Hu u9 (.lst []) = Hv
            intro LV
            by_cases hr9 : r9 = []
            · subst hr9
              refine ifYes rfl ⟨fun σ' H' => ∃ m', m' < m ∧ ∃ sts S, σ' = [some (.ref o), some (.ref d), some (.int x.1), some .non, some (.ref q), y5, y6, y7, none, none] ∧ Lg BB H o d q (butA gs x.1) (goT gs x.1) us H' sts S ∧ S.map down = settle (butA gs x.1) ++ List.replicate m' [], fun σ' H' h => h, ?_⟩
              obtain ⟨tsP, eP, RP⟩ := LV.r.popL
              refine ⟨.ref o, rfl, .inl ⟨rfl, _, LV.r.seq⟩, o, _, .ref t9, rfl, rfl, LV.r.top, ?_, ?_⟩
              · rw [List.length_map, hl9, List.getElem?_map, show S9.length + 1 - 1 = S9.length by omega, et9]
                rfl
              rw [eP]
              have e9 : S9.map down ++ [[]] = settle (butA gs x.1) ++ List.replicate m [] := by
                rw [← e8, List.map_append, List.map_singleton, show down [] = [] from (down_is (.refl _) List.Pairwise.nil).symm]
              cases m with
              | zero =>
                exfalso
                have h0 : ([] : List Int) ∈ settle (butA gs x.1) := by
                  have : ([] : List Int) ∈ S9.map down ++ [[]] := by simp
                  rw [e9] at this
                  simpa using this
                exact settleL_ne _ _ h0 rfl
              | succ m =>
                refine ⟨m, Nat.lt_succ_self _, tsP, S9, rfl, LV.top RP, ?_⟩
                rw [List.replicate_succ', ← List.append_assoc] at e9
                exact (List.append_inj' e9 rfl).1
            · have hre : r9.isEmpty = false := by
                cases r9 with
                | nil => exact absurd rfl hr9
                | cons _ _ => rfl
              rw [hre]
              refine ifNo rfl (hX _ _ ⟨sts8, S9 ++ [r9], rfl, LV, ?_⟩)
              cases m with
              | zero =>
                rw [e8]
                simp
              | succ m =>
                exfalso
                rw [List.replicate_succ', ← List.append_assoc, List.map_append] at e8
                have h0 := (List.append_inj' e8 rfl).2
                exact hr9 (down_nil (List.cons.inj h0).1)
        · obtain ⟨sts8, S8, rfl, L8, e8⟩ := hE
          exact ⟨_, rfl, q1 _ _ _ _ _ L8.r e8 L8.dd L8.g L8.k L8.v⟩
end
end El
namespace El
open PySem PySem.Spec PyProof.Rows L2
section
variable {P : Program} {w : World} {K : PySem.W.Frag} {mg : Str → Option Value} {base : Heap}
abbrev s__law_by_age : Stmt := topS 14
abbrev N__law_by_age : List Str := ["folk", "found", "old", "bears", "fine", "room"]
abbrev P__law_by_age : List Str := ["folk"]
theorem sc__law_by_age : FnScope N__law_by_age P__law_by_age (defScope s__law_by_age) := ⟨rfl, rfl, rfl, by decide +kernel, rfl, by decide +kernel, by decide +kernel⟩
def sp__law_by_age : Sp := fun vs H Q _ => ∃ (B : Addr → Prop) (a : Addr) (ts : List Addr) (gs : List (Int × Int)), vs = [.ref a] ∧ GsAt H B a ts gs ∧ Fit gs ∧ gs.length ≤ 1000 ∧
  ∀ H' o us, Same H H' → RmsAt H' (fun b => H b = none) o us (settle gs) → Q (.ref o) H'
theorem ok__law_by_age (A : At K mg "_law_by_age" P__law_by_age s__law_by_age) (B : Bi mg) : Df P w K mg base 1 "_law_by_age" P__law_by_age s__law_by_age sp__law_by_age := by
  refine A.df fun f fd F => F.ok sc__law_by_age (fun vs H Q E h => ?_) (fun cdv AA outer s H vs Q E hr h => ?_)
  · obtain ⟨_, a, _, _, rfl, _⟩ := h
    rfl
  · obtain ⟨BB, a, ts, gs, rfl, hG, hF, hl, q⟩ := h
    have nd := sc__law_by_age.nd
    refine ⟨_, (pss_cons (ps_set (i := 1) nd rfl (.inl rfl) (pe_lst pa_nil))
    (pss_cons (ps_for PassesOwn.never rfl (pi_list (pe_callBK (cr_sortedPK (b := true) rfl) (by rfl) B.sorted (by decide +kernel) (pa_cons (pv 0) pa_nil) (pk_cons pe_bl pk_nil))) (pg_tup (by rfl) (pgs_cons (pg_name (i := 2) nd rfl (.inl rfl)) (pgs_cons (pg_name (i := 3) nd rfl (.inr rfl)) pgs_nil))) (pss_cons (ps_setLc (i := 4) (own := [("room", 5)]) rfl nd rfl rfl (sw_true rfl rfl rfl (by decide +kernel)) (pi_list (pv 1)) (blkOk_by (N := N__law_by_age) (sc := defScope s__law_by_age) (by decide +kernel)) (fun _ _ _ _ _ => (pg_name (i := 5) nd rfl (.inl rfl))) (fun _ _ _ _ _ => (pts_one (pt_cmpR op_le (pe_callB (lenK K) (by rfl) B.len PySem.boot_len (pa_cons (pv 5) pa_nil)) (pv 3) (nomark _)))) (fun _ _ _ _ _ => (pv 5))) (pss_cons (ps_if (pt_cmpR (op_eqD hr.units) (pv 4) (pe_lst pa_nil) (nomark _)) (pss_cons (ps_set (i := 4) nd rfl (.inl rfl) (pe_lst (pa_cons (pe_lst pa_nil) pa_nil))) (pss_one (ps_expr (pe_bm PySem.F.plainAttrs_list PySem.F.slot_list_append PySem.F.type_list_append mt_append (pv 1) (pa_cons (pe_ix ix_list (pv 4) pe_int (fun _ _ => rfl)) pa_nil))))) pss_nil) (pss_one (ps_expr (pe_bm PySem.F.plainAttrs_list PySem.F.slot_list_append PySem.F.type_list_append mt_append (pe_ix ix_list (pv 4) pe_int (fun _ _ => rfl)) (pa_cons (pv 2) pa_nil)))))))
    (pss_one (ps_ret (pv 1))))), ?_⟩
    -- found = []
    refine ⟨Nat.zero_le _, fun o no => ?_⟩
    have s1 : Same H (upd H o (.lst [])) := same_new no
    have hG1 := hG.same s1
    -- sorted(lodgers, reverse=True)
    refine ⟨.ref a, rfl, a, _, prOf (upd H o (.lst [])), rfl, rfl, hG1.seq, hG1.mem, fun ys p2 hs hb np2 => ?_⟩
    have hys := sorted_down hF hG1.prs hs hb
    have hmem : ∀ x ∈ ys.reverse, ∃ t, x = V.ref t ∧ upd H o (.lst []) t = some (.tup [.int (prOf (upd H o (.lst [])) x).1, .int (prOf (upd H o (.lst [])) x).2]) := fun x m => hG1.mem x (hb.mem_iff.mp (List.mem_reverse.mp m))
    refine ⟨p2, rfl, ⟨_, SqL.of upd_same⟩, ?_⟩
    rw [if_pos rfl]
    have s2 : Same (upd H o (.lst [])) (upd (upd H o (.lst [])) p2 (.lst ys.reverse)) := same_new np2
    have eo : upd (upd H o (.lst [])) p2 (.lst ys.reverse) o = some (.lst []) := s2 _ _ upd_same
    have ep : upd (upd H o (.lst [])) p2 (.lst ys.reverse) p2 = some (.lst ys.reverse) := upd_same
    have hpo : p2 ≠ o := no_of upd_same np2
    have sH := s1.trans s2
    have hmem2 : ∀ x ∈ ys.reverse, ∃ t, x = V.ref t ∧ t ≠ o ∧ upd (upd H o (.lst [])) p2 (.lst ys.reverse) t = some (.tup [.int (prOf (upd H o (.lst [])) x).1, .int (prOf (upd H o (.lst [])) x).2]) := fun x m => by
      obtain ⟨t, e1, e2⟩ := hmem x m
      exact ⟨t, e1, (ne_of e2 upd_same (by simp)), s2 _ _ e2⟩
    revert sH eo ep hmem2
    generalize upd (upd H o (.lst [])) p2 (.lst ys.reverse) = Hs
    intro eo ep sH hmem2
    have hlen : ys.reverse.length = (byAge gs).length := by rw [← hys, List.length_map]
    refine for_it (walk_list (xs := ys.reverse)) (fun i σ H2 => ∃ us y2 y3 y4, σ = [some (.ref a), some (.ref o), y2, y3, y4, none] ∧ Kp (fun b => b ≠ o) Hs H2 ∧ RmsAt H2 (fun b => b = o ∨ Hs b = none) o us (settleL ((byAge gs).take i)))
      ⟨[], none, none, none, rfl, Kp.refl, RmsAt.nil eo (.inl rfl)⟩ (fun i σ H2 _ hW => ?_) (fun i x σ H2 H3 hi hW hY => ?_) (fun σ H2 hW => ?_)
    · obtain ⟨_, _, _, _, _, kp, _⟩ := hW
      exact SqL.of (kp _ _ hpo ep)
    · obtain ⟨us, y2, y3, y4, rfl, kp, hR⟩ := hW
      obtain ⟨rfl, hx⟩ := hY
      obtain ⟨t, rfl, hto, et⟩ := hmem2 x (List.mem_of_getElem? hx)
      have eg : (byAge gs)[i]? = some (prOf (upd H o (.lst [])) (.ref t)) := by
        rw [← hys, List.getElem?_map, hx]
        rfl
      revert eg et
      generalize prOf (upd H o (.lst [])) (.ref t) = g
      intro et eg
      have hlt : (settleL ((byAge gs).take i)).length ≤ 1000 := by
        refine Nat.le_trans (settleL_len _) ?_
        rw [List.length_take, byAge_length]
        omega
      have hE := settleL_take eg
      have hrm : ∀ r ∈ settleL ((byAge gs).take i), r.length ≤ 1000 := fun r hr => by
        refine Nat.le_trans (settleL_room hr) ?_
        rw [List.length_take, byAge_length]
        omega
      revert hlt hE hR hrm
      generalize settleL ((byAge gs).take i) = rs
      intro hR hlt hE hrm
      refine ⟨t, _, rfl, SqT.of (kp _ _ hto et), rfl, .int g.1, _, rfl, .int g.2, _, rfl, rfl, ?_⟩
      -- fine
      refine ⟨.ref o, rfl, o, rfl, ⟨_, hR.seq⟩, fun D nD => ?_⟩
      have nDo : o ≠ D := ne_of_none hR.top nD
      refine lc_it (walk_list (xs := us.map V.ref)) (fun k H4 => Same H3 H4 ∧ ∃ us' rs', H4 D = some (.lst (us'.map V.ref)) ∧ us'.length = rs'.length ∧ us'.length ≤ k ∧ us'.Sublist (us.take k) ∧ (∀ (j : Nat) (t : Addr) (r : List Int), us'[j]? = some t → rs'[j]? = some r → H3 t = some (.lst (r.map V.int))) ∧
          ((us' = [] ∧ ∀ (j : Nat) (r : List Int), j < k → rs[j]? = some r → g.2 < (r.length : Int)) ∨ ∃ u, us'[0]? = some u ∧ us[firstB rs g.2]? = some u ∧ firstB rs g.2 < rs.length))
        ⟨same_new nD, [], [], upd_same, rfl, Nat.le_refl _, List.nil_sublist _, fun j t r e _ => by simp at e, .inl ⟨rfl, fun j r h => absurd h (Nat.not_lt_zero _)⟩⟩ (fun k H4 _ hW => (hR.same hW.1).seq) (fun k x H4 H5 hk hW hY => ?_) (fun H4 hW => ?_)
      · obtain ⟨sm, us', rs', eD, l1, l2, sub, ats, alt⟩ := hW
        obtain ⟨rfl, hx'⟩ := hY
        obtain ⟨v, r, rfl, ev, er, _⟩ := hR.get hx'
        have erv := hR.at' k v r ev er
        refine ⟨rfl, .ref v, rfl, v, _, rfl, .inl (SqL.of (sm _ _ erv)), .int g.2, rfl, _, _, rfl, rfl, _, rfl, ?_⟩
        by_cases hle : ((r.map V.int).length : Int) ≤ g.2
        · refine ifYes (decide_eq_true hle) ⟨.ref v, rfl, _, eD, ils ?_, Same.mut sm nD, us' ++ [v], rs' ++ [r], ?_, ?_, ?_, ?_, fun j t' r' e1 e2 => ?_, ?_⟩
          · rw [List.length_map]
            have := at_lt er
            omega
          · rw [upd_same, List.map_append]
            rfl
          · rw [List.length_append, List.length_append, l1]
            rfl
          · rw [List.length_append]
            exact Nat.succ_le_succ l2
          · rw [take_snoc ev]
            exact sub.append (List.Sublist.refl _)
          · by_cases hj : j < us'.length
            · rw [List.getElem?_append_left hj] at e1
              rw [List.getElem?_append_left (by omega)] at e2
              exact ats j t' r' e1 e2
            · have h1 := at_lt e1
              rw [List.length_append, List.length_singleton] at h1
              have : j = us'.length := by omega
              subst this
              rw [List.getElem?_append_right (Nat.le_refl _), Nat.sub_self] at e1
              rw [l1, List.getElem?_append_right (Nat.le_refl _), Nat.sub_self] at e2
              obtain rfl : v = t' := Option.some.inj e1
              obtain rfl : r = r' := Option.some.inj e2
              exact erv
          · rcases alt with ⟨rfl, hb⟩ | ⟨u, hu1, hu2, hu3⟩
            · have hk' : firstB rs g.2 = k := firstB_is rs g.2 k (Nat.le_of_lt (at_lt er)) hb fun r' er' => by
                rw [Option.some.inj (er'.symm.trans er)]
                rw [List.length_map] at hle
                exact hle
              exact .inr ⟨v, rfl, by rw [hk']; exact ev, by rw [hk']; exact at_lt er⟩
            · refine .inr ⟨u, ?_, hu2, hu3⟩
              rw [List.getElem?_append_left (at_lt hu1)]
              exact hu1
        · refine ifNo (decide_eq_false hle) ⟨sm, us', rs', eD, l1, Nat.le_succ_of_le l2, ?_, ats, ?_⟩
          · rw [take_snoc ev]
            exact sub.trans (List.sublist_append_left _ _)
          · rcases alt with ⟨rfl, hb⟩ | h
            · refine .inl ⟨rfl, fun j r' hj er' => ?_⟩
              by_cases h : j < k
              · exact hb j r' h er'
              · have : j = k := by omega
                subst this
                rw [Option.some.inj (er'.symm.trans er)]
                rw [List.length_map] at hle
                omega
            · exact .inr h
      · obtain ⟨sm, us', rs', eD, l1, l2, sub, ats, alt⟩ := hW
        have hR4 := hR.same sm
        have k4 : Kp (fun b => b ≠ o) Hs H4 := kp.trans (.of sm)
        have subl : us'.Sublist us := sub.trans (List.take_sublist _ _)
        have Dus : D ∉ us := fun m => by
          obtain ⟨y, ey⟩ := hR.lives m
          rw [nD] at ey
          cases ey
        have F4 : RmsAt H4 (fun _ => True) D us' rs' := ⟨eD, trivial, subl.nodup hR.nd, fun m => Dus (subl.subset m), l1, fun j t r e1 e2 => sm _ _ (ats j t r e1 e2), fun _ _ => trivial⟩
        have fin : ∀ {H5 : Hp} {y2 y3 y4 : Option V} {us5 : List Addr} {rs5 : List (List Int)} {t5 : Addr} {r : List Int}, Kp (fun b => b ≠ o) Hs H5 → RmsAt H5 (fun b => b = o ∨ Hs b = none) o us5 rs5 → us5[firstB rs g.2]? = some t5 → place rs g.1 g.2 = rs5.set (firstB rs g.2) (r ++ [g.1]) →
            ∃ us z2 z3 z4, [some (V.ref a), some (.ref o), y2, y3, y4, none] = [some (V.ref a), some (.ref o), z2, z3, z4, none] ∧ Kp (fun b => b ≠ o) Hs (upd H5 t5 (.lst (r.map V.int ++ [.int g.1]))) ∧ RmsAt (upd H5 t5 (.lst (r.map V.int ++ [.int g.1]))) (fun b => b = o ∨ Hs b = none) o us (settleL ((byAge gs).take (i + 1))) := by
          intro H5 y2 y3 y4 us5 rs5 t5 r k5 hR5 et ep
          refine ⟨us5, _, _, _, rfl, ?_, ?_⟩
          · rcases hR5.b t5 (List.mem_of_getElem? et) with z | z
            · exact absurd (z ▸ List.mem_of_getElem? et) hR5.no
            · exact k5.mutF z
          · have z := hR5.set et (r ++ [g.1])
            rw [List.map_append] at z
            rw [hE, ep]
            exact z
        dsimp only [gName]
        refine ⟨.ref D, rfl, Nat.zero_le _, fun z nz => ?_⟩
        have sz := same_new (o := .lst []) nz
        refine ⟨dRows rs', dInts [], (F4.same sz).dp, Dp.ints (ns := []) upd_same, (Oks.rows _).shaped, (Oks.ints _).shaped, _, rfl, ?_⟩
        have ee : PyData.eqv (dRows rs') (dInts []) = rs'.isEmpty := by cases rs' <;> rfl
        rw [ee]
        have hR5 := hR4.same sz
        have k5 := k4.trans (Kp.of (B := fun b => b ≠ o) sz)
        have eD5 := sz _ _ eD
        have sm5 := sm.trans sz
        revert hR5 k5 eD5 sm5
        generalize upd H4 z (.lst []) = H5
        intro hR5 k5 eD5 sm5
        rcases alt with ⟨rfl, hb⟩ | ⟨u, hu1, hu2, hu3⟩
        · have hr0 : rs' = [] := List.eq_nil_of_length_eq_zero (by rw [← l1]; rfl)
          subst hr0
          have hfb : firstB rs g.2 = rs.length := firstB_is rs g.2 rs.length (Nat.le_refl _) (fun j r hj er => hb j r (by rw [List.length_map, hR.len]; exact hj) er) fun r er => absurd (at_lt er) (Nat.lt_irrefl _)
          refine iteT ⟨Nat.zero_le _, fun e1 n1 => ⟨(by show 1 ≤ sizeLine; decide), fun e2 n2 => ?_⟩⟩
          have sa := (same_new (o := .lst []) n1).trans (same_new (o := .lst [.ref e1]) n2)
          have ea1 : upd (upd H5 e1 (.lst [])) e2 (.lst [.ref e1]) e1 = some (.lst []) := (same_new n2) _ _ upd_same
          have ea2 : upd (upd H5 e1 (.lst [])) e2 (.lst [.ref e1]) e2 = some (.lst [.ref e1]) := upd_same
          have hR6 := hR5.same sa
          have k6 := k5.trans (Kp.of (B := fun b => b ≠ o) sa)
          have n1s : Hs e1 = none := k5.none (no_of hR5.top n1) n1
          have e1o : e1 ≠ o := no_of hR5.top n1
          have e2o : e2 ≠ o := no_of hR5.top ((same_new (o := .lst []) n1).free n2)
          have e1us : e1 ∉ us := fun m => by
            obtain ⟨y, ey⟩ := hR5.lives m
            rw [n1] at ey
            cases ey
          revert hR6 k6 ea1 ea2
          generalize upd (upd H5 e1 (.lst [])) e2 (.lst [.ref e1]) = H6
          intro ea1 ea2 hR6 k6
          dsimp only [gName]
          refine ⟨.ref o, rfl, .inl ⟨rfl, _, hR6.seq⟩, .ref e2, rfl, e2, _, 0, .ref e1, rfl, rfl, SqL.of ea2, atI_nat (j := 0) rfl, o, _, _, rfl, rfl, hR6.top, ils (by rw [List.length_map, hR6.len]; omega), ?_⟩
          have hR7 := hR6.addN (u := e1) (r := []) ea1 (.inr n1s) e1us e1o
          have et7 : (us ++ [e1])[firstB rs g.2]? = some e1 := by
            rw [hfb, ← hR.len, List.getElem?_append_right (Nat.le_refl _), Nat.sub_self]
            rfl
          refine ⟨.ref e2, rfl, e2, _, 0, .ref e1, rfl, rfl, SqL.of (by rw [upd_ne e2o]; exact ea2), atI_nat (j := 0) rfl, .inl ⟨rfl, _, SqL.of (by rw [upd_ne e1o]; exact ea1)⟩, .int g.1, rfl, e1, _, _, rfl, rfl, (by rw [upd_ne e1o]; exact ea1), ils (Nat.zero_le _), ?_⟩
          refine fin (r := []) (k6.mut fun z => z rfl) hR7 et7 ?_
          rw [place_new _ _ _ hfb, hfb, List.set_append_right _ _ (Nat.le_refl _), Nat.sub_self]
          rfl
        · obtain ⟨us2, rfl⟩ : ∃ us2, us' = u :: us2 := by
            cases us' with
            | nil => cases hu1
            | cons a b => exact ⟨b, by rw [show a = u from Option.some.inj hu1]⟩
          have en : rs'.isEmpty = false := by
            cases rs' with
            | nil => cases l1
            | cons a b => rfl
          rw [en]
          obtain ⟨r, er⟩ := at_some hu3
          have eu := hR5.at' _ u r hu2 er
          refine iteF ⟨.ref D, rfl, D, _, 0, .ref u, rfl, rfl, SqL.of eD5, atI_nat (j := 0) rfl, .inl ⟨rfl, _, SqL.of eu⟩, .int g.1, rfl, u, _, _, rfl, rfl, eu, ils (by rw [List.length_map]; exact Nat.le_trans (hrm r (List.mem_of_getElem? er)) (by decide)), ?_⟩
          exact fin k5 hR5 hu2 (place_at _ _ _ _ er)
    · obtain ⟨us, y2, y3, y4, rfl, kp, hR⟩ := hW
      rw [hlen, take_full] at hR
      refine ⟨.ref o, rfl, q H2 o us ?_ (hR.newTop (fun _ _ _ e => e) fun b hb => ?_)⟩
      · intro b x hb
        exact kp _ _ (ne_of_none hb no) (sH _ _ hb)
      · rcases hb with rfl | hb
        · exact no
        · rcases hR.b b hb with rfl | z
          · exact no
          · exact sH.free z
end
end El
namespace El
open PySem PySem.Spec PyProof.Rows L2
section
variable {P : Program} {w : World} {K : PySem.W.Frag} {mg : Str → Option Value} {base : Heap}
abbrev s__law_same : Stmt := topS 15
abbrev N__law_same : List Str := ["found", "due", "one", "other"]
abbrev P__law_same : List Str := ["found", "due"]
theorem sc__law_same : FnScope N__law_same P__law_same (defScope s__law_same) := ⟨rfl, rfl, rfl, by decide +kernel, rfl, by decide +kernel, by decide +kernel⟩
/-- numbers, and lists and tuples of such, alike, at most n deep -/
def Ali (H : Hp) : Nat → V → V → Prop
  | 0, x, y => ∃ a : Int, x = .int a ∧ y = .int a
  | n + 1, x, y => (∃ a : Int, x = .int a ∧ y = .int a) ∨ ∃ (a b : Addr) (xs ys : List V), x = .ref a ∧ y = .ref b ∧ ((H a = some (.lst xs) ∧ H b = some (.lst ys)) ∨ (H a = some (.tup xs) ∧ H b = some (.tup ys))) ∧ xs.length = ys.length ∧ ys.length ≤ 1000 ∧
      ∀ (i : Nat) (u v : V), xs[i]? = some u → ys[i]? = some v → Ali H n u v
theorem Ali.keep {H H' : Hp} (k : Same H H') : ∀ {n : Nat} {x y : V}, Ali H n x y → Ali H' n x y
  | 0, _, _, h => h
  | n + 1, _, _, h => by
    rcases h with h | ⟨a, b, xs, ys, rfl, rfl, h1, h2, h3, h4⟩
    · exact .inl h
    · refine .inr ⟨a, b, xs, ys, rfl, rfl, ?_, h2, h3, fun i u v e f => Ali.keep k (h4 i u v e f)⟩
      rcases h1 with ⟨h1, h2⟩ | ⟨h1, h2⟩
      · exact .inl ⟨k _ _ h1, k _ _ h2⟩
      · exact .inr ⟨k _ _ h1, k _ _ h2⟩
theorem Ali.int {H : Hp} {n : Nat} {i : Int} : Ali H n (.int i) (.int i) := by
  cases n with
  | zero => exact ⟨i, rfl, rfl⟩
  | succ n => exact .inl ⟨i, rfl, rfl⟩
theorem Ali.ints {H : Hp} {n : Nat} {a b : Addr} {ns : List Int} (h1 : H a = some (.lst (ns.map V.int))) (h2 : H b = some (.lst (ns.map V.int))) (hl : ns.length ≤ 1000) : Ali H (n + 1) (.ref a) (.ref b) :=
  .inr ⟨a, b, _, _, rfl, rfl, .inl ⟨h1, h2⟩, rfl, by rw [List.length_map]; exact hl, fun i u v e f => by
    obtain rfl : u = v := Option.some.inj (e.symm.trans f)
    obtain ⟨n, _, rfl⟩ := ints_at e
    exact Ali.int⟩
theorem Ali.rows {H : Hp} {n : Nat} {B B' : Addr → Prop} {a b : Addr} {ts us : List Addr} {rs : List (List Int)} (h1 : RmsAt H B a ts rs) (h2 : RmsAt H B' b us rs) (hl : rs.length ≤ 1000) (hr : ∀ r ∈ rs, r.length ≤ 1000) : Ali H (n + 2) (.ref a) (.ref b) :=
  .inr ⟨a, b, _, _, rfl, rfl, .inl ⟨h1.top, h2.top⟩, by rw [List.length_map, List.length_map, h1.len, h2.len], by rw [List.length_map, h2.len]; exact hl, fun i u v e f => by
    obtain ⟨t, r, rfl, _, er, et⟩ := h1.get e
    obtain ⟨t', r', rfl, _, er', et'⟩ := h2.get f
    obtain rfl : r = r' := Option.some.inj (er.symm.trans er')
    exact Ali.ints et et' (hr r (List.mem_of_getElem? er))⟩
theorem Ali.pairs {H : Hp} {n : Nat} {B B' : Addr → Prop} {a b : Addr} {ts us : List Addr} {gs : List (Int × Int)} (h1 : GsAt H B a ts gs) (h2 : GsAt H B' b us gs) (hl : gs.length ≤ 1000) : Ali H (n + 2) (.ref a) (.ref b) :=
  .inr ⟨a, b, _, _, rfl, rfl, .inl ⟨h1.top, h2.top⟩, by rw [List.length_map, List.length_map, h1.len, h2.len], by rw [List.length_map, h2.len]; exact hl, fun i u v e f => by
    obtain ⟨t, g, rfl, er, et⟩ := h1.get e
    obtain ⟨t', g', rfl, er', et'⟩ := h2.get f
    obtain rfl : g = g' := Option.some.inj (er.symm.trans er')
    refine .inr ⟨t, t', _, _, rfl, rfl, .inr ⟨et, et'⟩, rfl, (by show 2 ≤ 1000; decide), fun i u v e f => ?_⟩
    obtain rfl : u = v := Option.some.inj (e.symm.trans f)
    match i, e with
    | 0, e =>
      obtain rfl := Option.some.inj e
      exact Ali.int
    | 1, e =>
      obtain rfl := Option.some.inj e
      exact Ali.int
    | i + 2, e => simp at e⟩
def sp__law_same (n : Nat) : Sp := fun vs H Q _ => ∃ x y : V, vs = [x, y] ∧ Ali H n x y ∧ ∀ H', Same H H' → Q (.bl true) H'
theorem walk_zipT {K : PySem.W.Frag} {a b : Addr} {xs ys : List V} {n : Nat} (h1 : n = xs.length) (h2 : n = ys.length) : Walk (RZ.ItzT K a b) n (fun H => SqT K H a xs ∧ SqT K H b ys) (YPair (fun i => xs[i]?) (fun i => ys[i]?)) :=
  ⟨fun i _ hi g => ⟨xs, ys, xs[i]'(h1 ▸ hi), ys[i]'(h2 ▸ hi), g.1, g.2, List.getElem?_eq_getElem _, List.getElem?_eq_getElem _⟩, fun _ g => ⟨xs, ys, g.1, g.2, .inl (Nat.le_of_eq h1.symm)⟩,
    fun i H v H' _ g y => let ⟨T, x, z, e1, e2, e3, e4, e5⟩ := y; ⟨T, x, z, e1, e2, e3, e4 xs g.1, e5 ys g.2⟩⟩
theorem ok__law_same (A : At K mg "_law_same" P__law_same s__law_same) (B : Bi mg) : ∀ n : Nat, Df P w K mg base (n + 1) "_law_same" P__law_same s__law_same (sp__law_same n) := by
  intro n
  induction n with
  | zero =>
    refine A.df fun f fd F => F.ok sc__law_same (fun vs H Q E h => ?_) (fun cdv AA outer s H vs Q E hr h => ?_)
    · obtain ⟨_, _, rfl, _⟩ := h
      rfl
    · obtain ⟨x, y, rfl, ⟨a, rfl, rfl⟩, q⟩ := h
      have nd := sc__law_same.nd
      refine ⟨_, (pss_cons (ps_if (pt_val (pe_callB call_isiT (by rfl) B.isinstance (by decide +kernel) (pa_cons (pv 1) (pa_cons (pe_tup (pa_cons (pe_bltn (by rfl) B.list_ boot_list (relTy _)) (pa_cons (pe_bltn (by rfl) B.tuple_ boot_tuple (relTy _)) pa_nil))) pa_nil)))) (pss_cons ps_never (pss_one ps_never)) pss_nil) (pss_one (ps_ret (pe_and (pe_cmpR op_eq (pe_callB call_isi (by rfl) B.isinstance (by decide +kernel) (pa_cons (pv 0) (pa_cons (pe_bltn (by rfl) B.bool_ boot_bool (relTy _)) pa_nil))) (pe_callB call_isi (by rfl) B.isinstance (by decide +kernel) (pa_cons (pv 1) (pa_cons (pe_bltn (by rfl) B.bool_ boot_bool (relTy _)) pa_nil))) (nomark _)) (pe_one (pe_cmpR op_eq (pv 0) (pv 1) (nomark _))))))), ?_⟩
      refine ⟨.int a, rfl, (by show 2 ≤ sizeLine; decide), fun p np => ?_⟩
      have s1 : Same H (upd H p (.tup [.ty "list", .ty "tuple"])) := same_new np
      refine ⟨.int a, p, [.ty "list", .ty "tuple"], .type "int", [.type "list", .type "tuple"], false, rfl, upd_same, .cons (.ty _) (.cons (.ty _) .nil), .base (.int a), kitAny_cons (b := false) (kit_ty (by decide +kernel)) (fun _ => kitAny_cons (b := false) (kit_ty (by decide +kernel)) (fun _ => rfl) (fun h => by cases h)) (fun h => by cases h), _, rfl, iteF ?_⟩
      refine ⟨.int a, rfl, _, _, _, _, _, rfl, .ty _, .base (.int a), (show PySem.W.kitOne K (.type "int") (.type "bool") = some false from kit_ty (by decide +kernel)), .int a, rfl, _, _, _, _, _, rfl, .ty _, .base (.int a), (show PySem.W.kitOne K (.type "int") (.type "bool") = some false from kit_ty (by decide +kernel)), rfl, _, rfl, ?_⟩
      rw [decide_eq_true rfl]
      refine iteT ⟨.int a, rfl, .int a, rfl, rfl, ?_⟩
      rw [decide_eq_true rfl]
      exact q _ s1
  | succ n ih =>
    obtain ⟨f, fd, F, m, G, b⟩ := ih.ex
    refine ⟨f, fd, F, m, ?_, b⟩
    have G2 : FnOk P w K mg base CX0 (n + 1 + 1) f fd P__law_same (fun vs H Q _ => ∃ (a b : Addr) (xs ys : List V), vs = [.ref a, .ref b] ∧ ((H a = some (.lst xs) ∧ H b = some (.lst ys)) ∨ (H a = some (.tup xs) ∧ H b = some (.tup ys))) ∧ xs.length = ys.length ∧ ys.length ≤ 1000 ∧
        (∀ (i : Nat) (u v : V), xs[i]? = some u → ys[i]? = some v → Ali H n u v) ∧ ∀ H', Same H H' → Q (.bl true) H') := by
      refine F.ok sc__law_same (fun vs H Q E h => ?_) (fun cdv AA outer s H vs Q E hr h => ?_)
      · obtain ⟨_, _, _, _, rfl, _⟩ := h
        rfl
      · obtain ⟨a, b', xs, ys, rfl, hab, hl, hz, hA, q⟩ := h
        have nd := sc__law_same.nd
        have D__law_same := ih
        refine ⟨_, (pss_cons (ps_if (pt_val (pe_callB call_isiT (by rfl) B.isinstance (by decide +kernel) (pa_cons (pv 1) (pa_cons (pe_tup (pa_cons (pe_bltn (by rfl) B.list_ boot_list (relTy _)) (pa_cons (pe_bltn (by rfl) B.tuple_ boot_tuple (relTy _)) pa_nil))) pa_nil)))) (pss_cons (ps_if (PW.pt (pw_or (pt_cmpR op_ne (pe_callB call_isi (by rfl) B.isinstance (by decide +kernel) (pa_cons (pv 0) (pa_cons (pe_bltn (by rfl) B.list_ boot_list (relTy _)) pa_nil))) (pe_callB call_isi (by rfl) B.isinstance (by decide +kernel) (pa_cons (pv 1) (pa_cons (pe_bltn (by rfl) B.list_ boot_list (relTy _)) pa_nil))) (nomark _)) (pw_or1 (pt_cmpR op_ne (pe_callB call_isi (by rfl) B.isinstance (by decide +kernel) (pa_cons (pv 0) (pa_cons (pe_bltn (by rfl) B.tuple_ boot_tuple (relTy _)) pa_nil))) (pe_callB call_isi (by rfl) B.isinstance (by decide +kernel) (pa_cons (pv 1) (pa_cons (pe_bltn (by rfl) B.tuple_ boot_tuple (relTy _)) pa_nil))) (nomark _))))) (pss_one (ps_ret pe_bl)) pss_nil) (pss_one (ps_ret (pe_and (pe_cmpR op_eq (pe_callB call_len_seq (by rfl) B.len PySem.boot_len (pa_cons (pv 0) pa_nil)) (pe_callB call_len_seq (by rfl) B.len PySem.boot_len (pa_cons (pv 1) pa_nil)) (nomark _)) (pe_one (pe_callB (cr_all rfl) (by rfl) B.all (by decide +kernel) (pa_cons (pe_lc (own := [("one", 2), ("other", 3)]) (tt := tYes) rfl nd (RZ.pi_zipA (by rfl) B.zip (pa_cons (pv 0) (pa_cons (pv 1) pa_nil))) (blkOk_by (N := N__law_same) (sc := defScope s__law_same) (by decide +kernel)) (fun _ _ _ _ _ => (pgTupK K 2 (by rfl) (pgs_cons (pg_name (i := 2) nd rfl (.inl rfl)) (pgs_cons (pg_name (i := 3) nd rfl (.inl rfl)) pgs_nil)))) (fun _ _ _ _ _ => pts_nil) (fun _ _ _ _ _ => (pe_df D__law_same hr (by rfl) (pa_cons (pv 2) (pa_cons (pv 3) pa_nil))))) pa_nil))))))) pss_nil)
    (pss_one (ps_ret (pe_and (pe_cmpR op_eq (pe_callB call_isi (by rfl) B.isinstance (by decide +kernel) (pa_cons (pv 0) (pa_cons (pe_bltn (by rfl) B.bool_ boot_bool (relTy _)) pa_nil))) (pe_callB call_isi (by rfl) B.isinstance (by decide +kernel) (pa_cons (pv 1) (pa_cons (pe_bltn (by rfl) B.bool_ boot_bool (relTy _)) pa_nil))) (nomark _)) (pe_one (pe_cmpR op_eq (pv 0) (pv 1) (nomark _))))))), ?_⟩
        refine ⟨.ref b', rfl, (by show 2 ≤ sizeLine; decide), fun p np => ?_⟩
        have s1 : Same H (upd H p (.tup [.ty "list", .ty "tuple"])) := same_new np
        have e1 : upd H p (.tup [.ty "list", .ty "tuple"]) p = some (.tup [.ty "list", .ty "tuple"]) := upd_same
        have hab1 : (upd H p (.tup [.ty "list", .ty "tuple"]) a = some (.lst xs) ∧ upd H p (.tup [.ty "list", .ty "tuple"]) b' = some (.lst ys)) ∨ (upd H p (.tup [.ty "list", .ty "tuple"]) a = some (.tup xs) ∧ upd H p (.tup [.ty "list", .ty "tuple"]) b' = some (.tup ys)) := by
          rcases hab with ⟨h1, h2⟩ | ⟨h1, h2⟩
          · exact .inl ⟨s1 _ _ h1, s1 _ _ h2⟩
          · exact .inr ⟨s1 _ _ h1, s1 _ _ h2⟩
        revert s1 e1 hab1
        generalize upd H p (.tup [.ty "list", .ty "tuple"]) = H1
        intro s1 e1 hab1
        have ty : ∃ T : String, TyX K H1 (.ref a) (.type T) ∧ TyX K H1 (.ref b') (.type T) ∧ (T = "list" ∨ T = "tuple") := by
          rcases hab1 with ⟨h1, h2⟩ | ⟨h1, h2⟩
          · exact ⟨"list", .base (.lst h1), .base (.lst h2), .inl rfl⟩
          · exact ⟨"tuple", .base (.tup h1), .base (.tup h2), .inr rfl⟩
        obtain ⟨T, t1, t2, hT⟩ := ty
        have any : PySem.W.kitAny K (.type T) [.type "list", .type "tuple"] = some true := by
          rcases hT with rfl | rfl
          · exact kitAny_cons (b := true) (kit_ty (by decide +kernel)) (fun h => by cases h) (fun _ => rfl)
          · exact kitAny_cons (b := false) (kit_ty (by decide +kernel)) (fun _ => kitAny_cons (b := true) (kit_ty (by decide +kernel)) (fun h => by cases h) (fun _ => rfl)) (fun h => by cases h)
        obtain ⟨kl, hkl⟩ : ∃ k, PySem.W.kitOne K (.type T) (.type "list") = some k := by
          rcases hT with rfl | rfl
          · exact ⟨true, kit_ty (by decide +kernel)⟩
          · exact ⟨false, kit_ty (by decide +kernel)⟩
        obtain ⟨kt, hkt⟩ : ∃ k, PySem.W.kitOne K (.type T) (.type "tuple") = some k := by
          rcases hT with rfl | rfl
          · exact ⟨false, kit_ty (by decide +kernel)⟩
          · exact ⟨true, kit_ty (by decide +kernel)⟩
        have sq : (SqL K H1 a xs ∨ SqT K H1 a xs) ∧ (SqL K H1 b' ys ∨ SqT K H1 b' ys) := by
          rcases hab1 with ⟨h1, h2⟩ | ⟨h1, h2⟩
          · exact ⟨.inl (SqL.of h1), .inl (SqL.of h2)⟩
          · exact ⟨.inr (SqT.of h1), .inr (SqT.of h2)⟩
        refine ⟨.ref b', p, [.ty "list", .ty "tuple"], .type T, [.type "list", .type "tuple"], true, rfl, e1, .cons (.ty _) (.cons (.ty _) .nil), t2, any, _, rfl, iteT ?_⟩
        refine ⟨.ref a, rfl, _, _, _, _, _, rfl, .ty _, t1, hkl, .ref b', rfl, _, _, _, _, _, rfl, .ty _, t2, hkl, rfl, _, rfl, ?_⟩
        rw [decide_eq_true rfl]
        refine iteF ?_
        refine ⟨.ref a, rfl, _, _, _, _, _, rfl, .ty _, t1, hkt, .ref b', rfl, _, _, _, _, _, rfl, .ty _, t2, hkt, rfl, _, rfl, ?_⟩
        rw [decide_eq_true rfl]
        refine iteF ?_
        refine ⟨.ref a, rfl, a, _, rfl, sq.1, .ref b', rfl, b', _, rfl, sq.2, rfl, _, rfl, ?_⟩
        rw [hl, decide_eq_true rfl]
        refine iteT ⟨.ref a, rfl, .ref b', rfl, a, b', xs, ys, rfl, ?_⟩
        have fin : ∀ {D : Addr} {H2 : Hp}, Same H1 H2 → H2 D = some (.lst ((List.replicate ys.length true).map V.bl)) → rAll K [.ref D] H2 Q := fun {D H2} sm e => by
          refine ⟨D, List.replicate ys.length true, rfl, SqL.of e, ?_⟩
          have : (List.replicate ys.length true).all id = true := List.all_eq_true.mpr fun b m => (List.mem_replicate.mp m).2 ▸ rfl
          rw [this]
          exact q _ (s1.trans sm)
        rcases hab1 with ⟨ha, hb⟩ | ⟨ha, hb⟩
        · refine .inl ⟨SqL.of ha, SqL.of hb, fun D nD => ?_⟩
          refine lc_it (walk_zip (xs := xs) (ys := ys) (n := ys.length) (by omega)) (fun i H2 => Same H1 H2 ∧ H2 D = some (.lst ((List.replicate i true).map V.bl))) ⟨same_new nD, upd_same⟩ (fun i H2 _ hW => ⟨SqL.of (hW.1 _ _ ha), SqL.of (hW.1 _ _ hb)⟩) (fun i x H2 H3 hi hW hY => ?_) (fun H2 hW => fin hW.1 hW.2)
          obtain ⟨sm, hD2⟩ := hW
          obtain ⟨U, u, v, rfl, nU, rfl, hu, hv⟩ := hY
          refine ⟨U, _, rfl, SqT.of upd_same, rfl, u, _, rfl, v, _, rfl, rfl, rfl, u, rfl, v, rfl, u, v, rfl, (hA i u v hu hv).keep (s1.trans (sm.trans (same_new nU))), fun H4 s4 => ?_⟩
          have s5 := (same_new (o := .tup [u, v]) nU).trans s4
          refine ⟨_, s5 _ _ hD2, ils ?_, Same.mut (sm.trans s5) nD, ?_⟩
          · rw [List.length_map, List.length_replicate]
            omega
          · rw [upd_same, List.replicate_succ', List.map_append]
            rfl
        · refine .inr ⟨SqT.of ha, SqT.of hb, fun D nD => ?_⟩
          refine lc_it (walk_zipT (xs := xs) (ys := ys) (n := ys.length) hl.symm rfl) (fun i H2 => Same H1 H2 ∧ H2 D = some (.lst ((List.replicate i true).map V.bl))) ⟨same_new nD, upd_same⟩ (fun i H2 _ hW => ⟨SqT.of (hW.1 _ _ ha), SqT.of (hW.1 _ _ hb)⟩) (fun i x H2 H3 hi hW hY => ?_) (fun H2 hW => fin hW.1 hW.2)
          obtain ⟨sm, hD2⟩ := hW
          obtain ⟨U, u, v, rfl, nU, rfl, hu, hv⟩ := hY
          refine ⟨U, _, rfl, SqT.of upd_same, rfl, u, _, rfl, v, _, rfl, rfl, rfl, u, rfl, v, rfl, u, v, rfl, (hA i u v hu hv).keep (s1.trans (sm.trans (same_new nU))), fun H4 s4 => ?_⟩
          have s5 := (same_new (o := .tup [u, v]) nU).trans s4
          refine ⟨_, s5 _ _ hD2, ils ?_, Same.mut (sm.trans s5) nD, ?_⟩
          · rw [List.length_map, List.length_replicate]
            omega
          · rw [upd_same, List.replicate_succ', List.map_append]
            rfl
    refine (FnOk.or (G.mono (Nat.le_succ _)) G2).imp (fun vs H Q E h => ?_)
    obtain ⟨x, y, rfl, hA, q⟩ := h
    rcases hA with ⟨c, rfl, rfl⟩ | ⟨a, b', xs, ys, rfl, rfl, h1, h2, h3, h4⟩
    · exact .inl ⟨_, _, rfl, by cases n with | zero => exact ⟨c, rfl, rfl⟩ | succ n => exact .inl ⟨c, rfl, rfl⟩, q⟩
    · exact .inr ⟨a, b', xs, ys, rfl, h1, h2, h3, h4, q⟩
end
end El
namespace El
open PySem PySem.Spec PyProof.Rows L2
section
variable {X : Cx}
/-- sorted(view, reverse=True) of a dict of guests, told to be new -/
def rSortItN : List V → List V → Hp → VK → Prop := fun vs zs H Q => ∃ (p a : Addr) (gs : List (Int × Int)), vs = [V.ref p] ∧ zs = [.bl true] ∧ H p = some (L2.DX.itemsO p a) ∧ H a = some (.dK (pks gs)) ∧ Fit gs ∧
  ∀ (H' : Hp) (q : Addr) (us : List Addr), Same H H' → GsAt H' (fun b => H b = none) q us (byAge gs) → Q (.ref q) H'
theorem cr_sortItN (calm : X.calm = true) : CallRK X (.builtin "sorted") [Str.ofString "reverse"] rSortItN := by
  rintro pins s σ H _ _ us ws Q I one by_kw ⟨p, a, gs, rfl, rfl, at_p, at_a, F, q⟩
  obtain ⟨v, w, rfl, rfl, rfl, rfl⟩ : ∃ v w, us = [v] ∧ ws = [w] ∧ v = .ref p ∧ w = .bool true := by
    cases one with | cons e1 t1 => cases t1; cases by_kw with | cons e2 t2 => cases t2; exact ⟨_, _, rfl, rfl, e1, e2⟩
  have view : s.heap.IsItemsView p a := (show ObjOk X.prog X.w H s.heap p (L2.DX.itemsO p a) from I.hok p _ at_p).1
  have ⟨few, own, ens, same, lies⟩ := dk_of I.hok at_a
  have ⟨ep, lies⟩ := lies.dictAt
  have el : (pks gs).length = ens.length := Paired.length same
  have calm' : X.A.in1.handled = none := I.ok.hd calm
  refine sorted_gained (b := true) fun R go => PySem.W.kdx_collect (knd := mixKind X.prog X.w) calm' view lies (by rw [← el]; exact few) fun h' tk as grown len made => ?_
  have la : as.length = (pks gs).length := len.trans el.symm
  have nd : as.Nodup := made.rise.imp fun h => Nat.ne_of_lt h
  have at_as := LiI.putT_at as (pks gs) H la nd
  have new : ∀ t ∈ as, H t = none := fun t m => I.hok.fresh (Nat.le_of_lt (made.above t m))
  have old : Same H (LiI.putT H as (pks gs)) := fun b u e => by
    rw [LiI.putT_off as (pks gs) H fun m => by rw [new b m] at e; cases e]
    exact e
  have pr : Prs (LiI.putT H as (pks gs)) as gs := by
    refine ⟨by rw [la, pks_len], fun i t g e1 e2 => ?_⟩
    obtain ⟨y, e3, r⟩ := LiI.paired_get at_as e1
    rw [show pks gs = gs.map fun g => ((Sum.inl g.1 : L2.Key), V.int g.2) from rfl, List.getElem?_map, e2] at e3
    obtain rfl := Option.some.inj e3
    exact r
  have J : Inv X pins σ (LiI.putT H as (pks gs)) { s with heap := h', toks := tk } := by
    refine inv_many I grown old fun b o e => ?_
    by_cases m : b ∈ as
    · refine .inr ⟨Nat.le_of_lt (made.above b m), ?_⟩
      obtain ⟨j, kv, e1, e2, e3⟩ := LiI.paired_ix at_as m
      rw [e3] at e
      obtain rfl := Option.some.inj e
      obtain ⟨ky, k, x, f1, f2, f3⟩ := made.pairs j b e1
      obtain ⟨qv, g1, g2, g3⟩ := LiI.paired_get same e2
      rw [f1] at g1
      obtain rfl := Option.some.inj g1
      have rk : RelV (kV kv.1) ky := by
        rw [g2]
        exact relV_key f2
      exact ⟨by show 2 ≤ sizeLine; decide, [ky, x], .cons rk (.cons g3 .nil), ⟨_, f3, rfl, _, rfl⟩⟩
    · rw [LiI.putT_off as (pks gs) H m] at e
      exact .inl e
  revert pr J old
  generalize LiI.putT H as (pks gs) = H1
  intro old pr J
  have lies1 : ∀ x ∈ as.map V.ref, ∃ t, x = V.ref t ∧ H1 t = some (.tup [.int (prOf H1 x).1, .int (prOf H1 x).2]) := fun x m => by
    obtain ⟨t, mt, rfl⟩ := List.mem_map.mp m
    obtain ⟨i, e⟩ := List.mem_iff_getElem?.mp mt
    obtain ⟨g, eg⟩ := at_some (l := gs) (i := i) (by rw [← pr.len]; exact at_lt e)
    have et := pr.at' i t g e eg
    exact ⟨t, rfl, by rw [prOf_is et]; exact et⟩
  have known : ∀ {x : V} {u : Value}, x ∈ as.map V.ref → RelV x u → asOurs u = x := fun {x u} m e => by
    have ⟨t, ex, _⟩ := lies1 x m
    subst ex
    exact congrArg asOurs e
  refine go _ h' tk H1 (as.map V.ref) _ (LiI.vals_refs as) (by rw [List.length_map, la]; exact few) J (SrtO.swo_lex fun u => prOf H1 (asOurs u)) (fun s' l two J2 free => ?_) fun P l hP perm up free => ?_
  · refine SrtO.pairs_sortableO (k := fun u => prOf H1 (asOurs u)) (Nat.lt_of_lt_of_le Nat.two_pos two) (fun u m => ?_) fun o at_l => ?_
    · obtain ⟨t, mt, rfl⟩ := List.mem_map.mp m
      obtain ⟨t2, e2, ht⟩ := lies1 (.ref t) (List.mem_map_of_mem mt)
      obtain rfl := V.ref.inj e2
      have apart : t ≠ l := fun e => by rw [e, free] at ht; cases ht
      have ⟨_, vs, rv, o, at_t, is_tup, n, data⟩ := J2.hok t _ ((upd_ne apart).trans ht)
      rw [show asOurs (.ref t) = V.ref t from rfl]
      cases rv with | cons e1 rv => cases rv with | cons e2 rv => cases rv; exact e1.elim fun t1 e1 => e2.elim fun t2 e2 => ⟨t, o, t1, t2, n, rfl, at_t, is_tup, by rw [data, e1, e2]⟩
    · have ⟨_, vs, e, _, there⟩ := J2.hok l _ upd_same
      rw [there] at at_l
      cases at_l
      have differ : Value.type "list" ≠ Value.type "tuple" := by decide
      exact differ
  · have sorts : SrtO.Srtd (ltP (prOf H1)) (P.map Prod.fst) := by
      rw [SrtO.Srtd, List.pairwise_map] at up ⊢
      refine up.imp_of_mem fun {p p'} m m' h => ?_
      have on := fun {p : V × Value} (m : p ∈ P) => known (perm.mem_iff.mp (List.mem_map_of_mem (f := Prod.fst) m)) (hP p m)
      rw [on m, on m'] at h
      exact h
    have down_ := sorted_down F pr.back sorts perm
    obtain ⟨us, uas, eus⟩ := go_along (f := V.ref) (P := as) ((List.reverse_perm _).trans perm)
    show Q (.ref l) (upd H1 l (.lst (P.map Prod.fst).reverse))
    rw [← eus] at down_ ⊢
    have lay : Same H1 (upd H1 l (.lst (us.map V.ref))) := same_new free
    have lu : us.length = (byAge gs).length := by rw [byAge_length, uas.length_eq, pr.len]
    refine q _ l us (fun b u e => lay b u (old b u e)) ((Prs.gs ⟨lu, fun i t g e1 e2 => ?_⟩ upd_same).reB fun b m _ => m.elim (fun z => z ▸ old.free free) fun z => new b (uas.mem_iff.mp z))
    obtain ⟨t2, e3, ht⟩ := lies1 (.ref t) (List.mem_map_of_mem (uas.mem_iff.mp (List.mem_of_getElem? e1)))
    obtain rfl := V.ref.inj e3
    have := congrArg (fun z => z[i]?) down_
    simp only [List.getElem?_map, e1, e2, Option.map_some] at this
    rw [← Option.some.inj this]
    exact lay _ _ ht
end
end El
namespace El
open PySem PySem.Spec PyProof.Rows L2
theorem fall_adj : ∀ {L : List Int}, (∀ (i : Nat) (x y : Int), L[i]? = some x → (L.drop 1)[i]? = some y → ¬ x < y) → L.Pairwise (· ≥ ·)
  | [], _ => .nil
  | [x], _ => List.pairwise_singleton _ _
  | x :: y :: r, h => by
    have h1 := h 0 x y rfl rfl
    have h2 := fall_adj (L := y :: r) fun i a b e1 e2 => h (i + 1) a b (by simpa using e1) (by simpa using e2)
    refine List.pairwise_cons.mpr ⟨fun z m => ?_, h2⟩
    rcases List.mem_cons.mp m with rfl | m
    · omega
    · have := (List.pairwise_cons.mp h2).1 z m
      omega
theorem settle_no : settle ([] : List (Int × Int)) = [] := by
  have e1 : byAge ([] : List (Int × Int)) = [] := List.eq_nil_of_length_eq_zero (byAge_length [])
  show settleL (byAge []) = []
  rw [e1]
  rfl
theorem Fit.snoc {gs : List (Int × Int)} (F : Fit gs) {x : Int × Int} (h : x.1 ∉ gs.map (·.1)) (h0 : 0 ≤ x.2) : Fit (gs ++ [x]) := by
  refine ⟨?_, fun z m => ?_⟩
  · rw [List.map_append, List.nodup_append]
    exact ⟨F.nd, by simp, fun y m z mz => by
      obtain rfl : z = x.1 := by simpa using mz
      exact fun e => h (e ▸ m)⟩
  · rcases List.mem_append.mp m with m | m
    · exact F.pos z m
    · rw [List.mem_singleton.mp m]
      exact h0
section
variable {P : Program} {w : World} {K : PySem.W.Frag} {mg : Str → Option Value} {base : Heap}
abbrev s__law_right : Stmt := topS 16
abbrev N__law_right : List Str := ["deck", "made", "folk", "some", "due", "spot", "room", "told", "sizes_now", "other", "left", "turn", "old", "bears", "elders"]
abbrev P__law_right : List Str := ["deck", "made", "folk"]
theorem sc__law_right : FnScope N__law_right P__law_right (defScope s__law_right) := ⟨rfl, rfl, rfl, by decide +kernel, rfl, by decide +kernel, by decide +kernel⟩
def sp__law_right (C : Addr) : Sp := fun vs H Q _ => ∃ (t g x d o sd : Addr) (n : Nat) (BB : Addr → Prop) (ts : List Addr) (gi : List (Int × Int)), vs = [.ref t, .ref x, .ref sd] ∧ Deck H t g n ∧ InnAt C H BB x d o ts gi (settle gi) ∧ H sd = some (.dK (pks gi)) ∧ Off t g sd ∧ (∀ b, BB b → Off t g b) ∧ Fit gi ∧ gi.length ≤ 60 ∧ n ≤ 800000000 ∧
  ∀ H', Kp (Off t g) H H' → (∀ b, H' b = none → H b = none) → Deck H' t g (n + 70) → Q (.bl true) H'
theorem ok__law_right {C fI : Addr} {fdI : FuncData} (A : At K mg "_law_right" P__law_right s__law_right) (B : Bi mg) (T : InnT K mg C) (MK_Inn : Mk K C fI) (FI_Inn : FnOk P w K mg base CX0 1 fI fdI P_Inn___init__ (sp_Inn___init__ C)) (bI_Inn : Binds K fdI P_Inn___init__ [])
    (M_come : Mf P w K mg base 2 C "come" "Inn.come" P_Inn_come s_Inn_come (sp_Inn_come C)) (M_rooms : Mf P w K mg base 1 C "rooms" "Inn.rooms" P_Inn_rooms s_Inn_rooms (sp_Inn_rooms C)) (M_guests : Mf P w K mg base 1 C "guests" "Inn.guests" P_Inn_guests s_Inn_guests (sp_Inn_guests C))
    (M_where : Mf P w K mg base 2 C "where" "Inn.where" P_Inn_where s_Inn_where (sp_Inn_where C)) (M___len__ : Mf P w K mg base 1 C "__len__" "Inn.__len__" P_Inn___len__ s_Inn___len__ (sp_Inn___len__ C)) (M___eq__ : Mf P w K mg base 1 C "__eq__" "Inn.__eq__" P_Inn___eq__ s_Inn___eq__ (sp_Inn___eq__ C))
    (D__law_take : Df P w K mg base 1 "_law_take" P__law_take s__law_take sp__law_take) (D__law_by_age : Df P w K mg base 1 "_law_by_age" P__law_by_age s__law_by_age sp__law_by_age) (D__law_same : Df P w K mg base 3 "_law_same" P__law_same s__law_same (sp__law_same 2)) :
    Df P w K mg base 4 "_law_right" P__law_right s__law_right (sp__law_right C) := by
  refine A.df fun f fd F => F.ok sc__law_right (fun vs H Q E h => ?_) (fun cdv AA outer s H vs Q E hr h => ?_)
  · obtain ⟨_, _, _, _, _, _, _, _, _, _, rfl, _⟩ := h
    rfl
  · obtain ⟨t, g, x, d, o, sd, n, BB, ts, gi, rfl, hT, hI, hD, hsd, hB, hF, hl, hn, q⟩ := h
    have nd := sc__law_right.nd
    refine ⟨_, (pss_cons (ps_set (i := 3) nd rfl (.inl rfl) (pe_callBK (cr_sortItN rfl) (by rfl) B.sorted (by decide +kernel) (pa_cons (pe_bm0 PySem.F.plainAttrs_dict PySem.F.slot_dict_items PySem.F.type_dict_items mt_viewK (pv 2)) pa_nil) (pk_cons pe_bl pk_nil)))
    (pss_cons (ps_set (i := 4) nd rfl (.inl rfl) (pe_df D__law_by_age (hr.mono (by decide)) (by rfl) (pa_cons (pv 3) pa_nil)))
    (pss_cons (ps_if (PW.pt (pw_or (pt_not (pt_val (pe_df D__law_same (hr.mono (by decide)) (by rfl) (pa_cons (pe_mf0 M_rooms T.cl (hr.mono (by decide)) (pv 1)) (pa_cons (pv 4) pa_nil))))) (pw_or (pt_not (pt_val (pe_df D__law_same (hr.mono (by decide)) (by rfl) (pa_cons (pe_mf0 M_guests T.cl (hr.mono (by decide)) (pv 1)) (pa_cons (pv 3) pa_nil))))) (pw_or1 (pt_cmpR op_ne (pe_callB (call_lenO M___len__ (hr.mono (by decide))) (by rfl) B.len PySem.boot_len (pa_cons (pv 1) pa_nil)) (pe_callB call_len_seq (by rfl) B.len PySem.boot_len (pa_cons (pv 3) pa_nil)) (nomark _)))))) (pss_one (ps_ret pe_bl)) pss_nil)
    (pss_cons (ps_for PassesOwn.never rfl (pi_enum (by rfl) B.enumerate (pa_cons (pv 4) pa_nil)) (pg_tup (by rfl) (pgs_cons (pg_name (i := 5) nd rfl (.inr rfl)) (pgs_cons (pg_name (i := 6) nd rfl (.inl rfl)) pgs_nil))) (pss_cons (ps_setLc (i := 7) (own := [("old", 12)]) (tt := tYes) rfl nd rfl rfl (sw_true rfl rfl rfl (by decide +kernel)) (pi_list (pv 6)) (blkOk_by (N := N__law_right) (sc := defScope s__law_right) (by decide +kernel)) (fun _ _ _ _ _ => (pg_name (i := 12) nd rfl (.inl rfl))) (fun _ _ _ _ _ => pts_nil) (fun _ _ _ _ _ => (pe_lst (pa_cons (pe_mf M_where T.cl (hr.mono (by decide)) (pv 1) (pa_cons (pv 12) pa_nil)) (pa_cons (pe_mfK M_where T.cl ["age"] (fun | [a0] => [a0] | l => l) (hr.mono (by decide)) (pv 1) (pk_cons (pv 12) pk_nil) (fun _ _ _ _ _ _ _ ws hl => match ws, hl with | [_], _ => rfl) (fun r => match r with | .nil => .nil | .cons x0 .nil => .cons x0 .nil | .cons x0 (.cons x1 r) => .cons x0 (.cons x1 r))) pa_nil))))) (pss_cons (ps_if (pt_not (pt_val (pe_df D__law_same (hr.mono (by decide)) (by rfl) (pa_cons (pv 7) (pa_cons (pe_lc (own := [("old", 12)]) (tt := tYes) rfl nd (pi_list (pv 6)) (blkOk_by (N := N__law_right) (sc := defScope s__law_right) (by decide +kernel)) (fun _ _ _ _ _ => (pg_name (i := 12) nd rfl (.inl rfl))) (fun _ _ _ _ _ => pts_nil) (fun _ _ _ _ _ => (pe_lst (pa_cons (pv 5) (pa_cons (pv 5) pa_nil))))) pa_nil))))) (pss_one (ps_ret pe_bl)) pss_nil) (pss_one (ps_if (pt_cmpR (op_neD hr.units) (pe_lc (own := [("elders", 14), ("old", 12)]) rfl nd (pi_enum (by rfl) B.enumerate (pa_cons (pv 6) pa_nil)) (blkOk_by (N := N__law_right) (sc := defScope s__law_right) (by decide +kernel)) (fun _ _ _ _ _ => (pgTupK K 2 (by rfl) (pgs_cons (pg_name (i := 14) nd rfl (.inl rfl)) (pgs_cons (pg_name (i := 12) nd rfl (.inl rfl)) pgs_nil)))) (fun _ _ _ _ _ => (pts_one (pt_cmpR op_gt (pv 14) (pe_dget (hu_of hr) (pv 2) (pv 12) (fun _ _ => rfl)) (nomark _)))) (fun _ _ _ _ _ => pe_int)) (pe_lst pa_nil) (nomark _)) (pss_one (ps_ret pe_bl)) pss_nil)))))
    (pss_cons (ps_setLc (i := 8) (own := [("room", 6)]) (tt := tYes) rfl nd rfl rfl (sw_true rfl rfl rfl (by decide +kernel)) (pi_list (pe_mf0 M_rooms T.cl (hr.mono (by decide)) (pv 1))) (blkOk_by (N := N__law_right) (sc := defScope s__law_right) (by decide +kernel)) (fun _ _ _ _ _ => (pg_name (i := 6) nd rfl (.inl rfl))) (fun _ _ _ _ _ => pts_nil) (fun _ _ _ _ _ => (pe_callB (lenK K) (by rfl) B.len PySem.boot_len (pa_cons (pv 6) pa_nil))))
    (pss_cons (ps_if (pt_cmpR (op_neD hr.units) (pv 8) (pe_callBK (cr_sortedRev (b := true)) (by rfl) B.sorted (by decide +kernel) (pa_cons (pv 8) pa_nil) (pk_cons pe_bl pk_nil)) (nomark _)) (pss_one (ps_ret pe_bl)) pss_nil)
    (pss_cons (ps_if (pt_cmpR op_gt (pe_df D__law_take (hr.mono (by decide)) (by rfl) (pa_cons (pv 0) (pa_cons pe_int pa_nil))) pe_int (nomark _)) (pss_one (ps_ret pe_bl)) pss_nil)
    (pss_cons (ps_set (i := 9) nd rfl (.inl rfl) (pe_make0 MK_Inn FI_Inn (hr.mono (by decide)) rfl T.mgC bI_Inn .nil pass0))
    (pss_cons (ps_set (i := 10) nd rfl (.inl rfl) (pe_callTy call_list_of (by rfl) B.list_ (by decide +kernel) (pa_cons (pv 3) pa_nil)))
    (pss_cons (ps_for PassesOwn.never rfl (pi_range1 (by rfl) B.range (pa_cons (pe_callB call_len_seq (by rfl) B.len PySem.boot_len (pa_cons (pv 3) pa_nil)) pa_nil)) (pg_name (i := 11) nd rfl (.inl rfl)) (pss_cons (ps_asg (pe_bm PySem.F.plainAttrs_list PySem.F.slot_list_pop PySem.F.type_list_pop mt_popAt (pv 10) (pa_cons (pe_df D__law_take (hr.mono (by decide)) (by rfl) (pa_cons (pv 0) (pa_cons (pe_callB call_len_seq (by rfl) B.len PySem.boot_len (pa_cons (pv 10) pa_nil)) pa_nil))) pa_nil)) (pg_tup (by rfl) (pgs_cons (pg_name (i := 12) nd rfl (.inl rfl)) (pgs_cons (pg_name (i := 13) nd rfl (.inl rfl)) pgs_nil)))) (pss_one (ps_expr (pe_mf M_come T.cl (hr.mono (by decide)) (pv 9) (pa_cons (pv 12) (pa_cons (pv 13) pa_nil)))))))
    (pss_one (ps_ret (pe_and (pe_cmpR (op_eqO M___eq__ (hr.mono (by decide))) (pv 9) (pv 1) (nomark _)) (pe_one (pe_cmpR (op_eqD hr.units) (pe_mf0 M_rooms T.cl (hr.mono (by decide)) (pv 9)) (pv 4) (nomark _)))))))))))))))), ?_⟩
    have lset : (settle gi).length ≤ 60 := by
      have := settleL_len (byAge gi)
      rw [byAge_length] at this
      exact Nat.le_trans this hl
    have lroom : ∀ r ∈ settle gi, r.length ≤ 60 := fun r m => by
      have := settleL_room (gs := byAge gi) m
      rw [byAge_length] at this
      omega
    have hperm : (byAge gi).Perm gi := byAge_perm _
    -- some
    refine ⟨.ref sd, rfl, .inr (.inr (.inl ⟨rfl, .inl ⟨_, hD⟩⟩)), sd, _, rfl, rfl, hD, fun vp nvp => ⟨vp, sd, _, rfl, rfl, upd_same, (same_new nvp) _ _ hD, hF, fun H1 sq sus sS GS => ?_⟩⟩
    have s1 := (same_new (o := L2.DX.itemsO vp sd) nvp).trans sS
    dsimp only [gName]
    -- due
    refine ⟨.ref sq, rfl, _, sq, sus, byAge gi, rfl, GS, hF.byAge, by rw [byAge_length]; omega, fun H2 du dus s2 R2 => ?_⟩
    rw [settle_congr hF hperm] at R2
    dsimp only [gName]
    have s02 := s1.trans s2
    have I2 := hI.same s02
    have GS2 := GS.same s2
    -- as it should be
    refine seq_to (fun σ Hx => σ = [some (.ref t), some (.ref x), some (.ref sd), some (.ref sq), some (.ref du), none, none, none, none, none, none, none, none, none, none] ∧ Same H2 Hx) (fun Y hY => ?_) (fun σ H3 hE => ?_)
    · obtain ⟨dx, hp⟩ := I2.ob
      refine ⟨_, rfl, x, dx, _, rfl, hp, iflds_no _ _ (by decide +kernel) (by decide +kernel), BB, x, d, o, ts, gi, _, rfl, I2, by omega, fun H3 rq rus s3 R3 => ?_⟩
      refine ⟨.ref du, rfl, _, _, rfl, Ali.rows R3 (R2.same s3) (by omega) (fun r m => by have := lroom r m; omega), fun H4 s4 => ⟨_, rfl, ifNo rfl ?_⟩⟩
      have s34 := s3.trans s4
      have I4 := I2.same s34
      obtain ⟨dx4, hp4⟩ := I4.ob
      refine ⟨_, rfl, x, dx4, _, rfl, hp4, iflds_no _ _ (by decide +kernel) (by decide +kernel), BB, x, d, o, ts, gi, _, rfl, I4, hF, by omega, fun H5 gq gus s5 G5 => ?_⟩
      refine ⟨.ref sq, rfl, _, _, rfl, Ali.pairs G5 ((GS2.same s34).same s5) (by rw [byAge_length]; omega), fun H6 s6 => ⟨_, rfl, ifNo rfl ?_⟩⟩
      have s26 := s34.trans (s5.trans s6)
      have I6 := I2.same s26
      obtain ⟨dx6, hp6⟩ := I6.ob
      have GS6 := GS2.same s26
      refine ⟨.ref x, rfl, x, dx6, _, rfl, hp6, BB, x, d, o, ts, gi, _, rfl, I6, gi.length, rfl, by omega, by omega, .ref sq, rfl, sq, _, rfl, .inl GS6.seq, rfl, _, rfl, ifNo ?_ (hY _ _ ⟨rfl, s26⟩)⟩
      rw [List.length_map, GS6.len, byAge_length]
      simp
    obtain ⟨rfl, s3⟩ := hE
    have e12 : byAge gi = byAge gi := rfl
    -- room by room
    refine seq_to (fun σ Hx => ∃ y5 y6 y7, σ = [some (.ref t), some (.ref x), some (.ref sd), some (.ref sq), some (.ref du), y5, y6, y7, none, none, none, none, none, none, none] ∧ Same H2 Hx) (fun Y hY => ?_) (fun σ H4 hE => ?_)
    · have R3 := R2.same s3
      refine ⟨.ref du, rfl, du, _, rfl, R3.seq, ?_⟩
      refine for_it (walk_enum (xs := dus.map V.ref)) (fun k σ H5 => ∃ y5 y6 y7, σ = [some (.ref t), some (.ref x), some (.ref sd), some (.ref sq), some (.ref du), y5, y6, y7, none, none, none, none, none, none, none] ∧ Same H3 H5) ⟨_, _, _, rfl, fun b u e => e⟩ (fun k σ H5 _ hW => ?_) (fun k v σ H5 H6 hk hW hY2 => ?_) (fun σ H5 hW => ?_)
      · obtain ⟨_, _, _, _, s5⟩ := hW
        exact (R3.same s5).seq
      · obtain ⟨y5, y6, y7, rfl, s5⟩ := hW
        obtain ⟨U, x1, x2, rfl, nU, rfl, f1, f2⟩ := hY2
        obtain rfl : V.int ↑k = x1 := Option.some.inj f1
        obtain ⟨rt, r, rfl, _, er, et⟩ := (R3.same s5).get f2
        have sU := same_new (o := .tup [.int k, .ref rt]) nU
        have s6 := s5.trans sU
        refine ⟨U, [.int k, .ref rt], rfl, SqT.of upd_same, rfl, .int k, [.ref rt], rfl, .ref rt, [], rfl, rfl, ?_⟩
        have I6 := (I2.same s3).same s6
        have et6 := sU _ _ et
        have hD6 := s6 _ _ (s3 _ _ (s02 _ _ hD))
        revert I6 et6 s6 hD6
        generalize upd H5 U (.tup [.int k, .ref rt]) = H7
        intro s6 I6 et6 hD6
        have lr := lroom r (List.mem_of_getElem? er)
        have fine := settle_fine hF (List.mem_of_getElem? er)
        obtain ⟨A1, A2, eA, hA⟩ : ∃ A1 A2 : List (List Int), settle gi = A1 ++ r :: A2 ∧ A1.length = k := by
          have hlt := at_lt er
          refine ⟨(settle gi).take k, (settle gi).drop (k + 1), ?_, by rw [List.length_take]; omega⟩
          have : (settle gi)[k] = r := by
            rw [List.getElem?_eq_getElem hlt] at er
            exact Option.some.inj er
          rw [← this, ← List.drop_eq_getElem_cons hlt, List.take_append_drop]
        have zin : ∀ z ∈ r, z ∈ gi.map (·.1) := fun z zr => (settle_flat gi).mem_iff.mp (List.mem_flatten.mpr ⟨r, List.mem_of_getElem? er, zr⟩)
        dsimp only [gName]
        -- told
        refine ⟨.ref rt, rfl, rt, rfl, ⟨_, SqL.of et6⟩, fun D nD => ?_⟩
        refine lc_it (walk_list (xs := r.map V.int)) (fun j H8 => Same H7 H8 ∧ ∃ lts, RmsAt H8 (fun z => H7 z = none) D lts (List.replicate j [(k : Int), (k : Int)])) ⟨same_new nD, [], RmsAt.nil upd_same nD⟩ (fun j H8 _ hW => SqL.of (hW.1 _ _ et6)) (fun j v H8 H9 hj hW hY2 => ?_) (fun H8 hW => ?_)
        · obtain ⟨s8, lts, hL⟩ := hW
          obtain ⟨rfl, hv⟩ := hY2
          obtain ⟨z, ez, rfl⟩ := ints_at hv
          have zr := List.mem_of_getElem? ez
          have I8 := I6.same s8
          obtain ⟨dx8, hp8⟩ := I8.ob
          have only := only_room eA (settle_nd hF) zr
          refine ⟨rfl, .ref x, rfl, x, dx8, _, rfl, hp8, iflds_no _ _ (by decide +kernel) (by decide +kernel), .int z, rfl, BB, x, d, o, ts, gi, _, z, k, r, rfl, I8, hF.nd, zin z zr, by omega, er, zr, fun j' r' ej' mr' => by rw [only j' r' ej' mr', hA], fun Ha sa => ?_⟩
          have Ia := I8.same sa
          obtain ⟨dxa, hpa⟩ := Ia.ob
          refine ⟨.ref x, rfl, x, dxa, _, rfl, hpa, iflds_no _ _ (by decide +kernel) (by decide +kernel), .int z, rfl, rfl, BB, x, d, o, ts, gi, _, z, k, r, rfl, Ia, hF.nd, zin z zr, by omega, er, zr, fun j' r' ej' mr' => by rw [only j' r' ej' mr', hA], fun Hb sb => ⟨(by show 2 ≤ sizeLine; decide), fun c nc => ?_⟩⟩
          have sb8 := s8.trans (sa.trans sb)
          have hLb := (hL.same sa).same sb
          have ncD : D ≠ c := ne_of_none hLb.top nc
          refine ⟨_, by rw [upd_ne ncD]; exact hLb.top, ils (by rw [List.length_map, hLb.len, List.length_replicate]; rw [List.length_map] at hj; omega), Same.mut (sb8.trans (same_new nc)) nD, lts ++ [c], ?_⟩
          rw [List.replicate_succ']
          exact hLb.push (r := [(k : Int), (k : Int)]) nc (sb8.free nc)
        obtain ⟨s8, lts, hL⟩ := hW
        rw [List.length_map] at hL
        dsimp only [gName]
        have et8 := s8 _ _ et6
        -- as it is due
        refine ⟨.ref D, rfl, .ref rt, rfl, rt, rfl, ⟨_, SqL.of et8⟩, fun D2 nD2 => ?_⟩
        refine lc_it (walk_list (xs := r.map V.int)) (fun j H9 => Same H8 H9 ∧ ∃ lts, RmsAt H9 (fun z => H8 z = none) D2 lts (List.replicate j [(k : Int), (k : Int)])) ⟨same_new nD2, [], RmsAt.nil upd_same nD2⟩ (fun j H9 _ hW => SqL.of (hW.1 _ _ et8)) (fun j v Hq H9 hj hW hY2 => ?_) (fun H9 hW => ?_)
        · obtain ⟨s9, lts2, hL2⟩ := hW
          obtain ⟨rfl, hv⟩ := hY2
          refine ⟨rfl, .int k, rfl, .int k, rfl, (by show 2 ≤ sizeLine; decide), fun c nc => ?_⟩
          have ncD : D2 ≠ c := ne_of_none hL2.top nc
          refine ⟨_, by rw [upd_ne ncD]; exact hL2.top, ils (by rw [List.length_map, hL2.len, List.length_replicate]; rw [List.length_map] at hj; omega), Same.mut (s9.trans (same_new nc)) nD2, lts2 ++ [c], ?_⟩
          rw [List.replicate_succ']
          exact hL2.push (r := [(k : Int), (k : Int)]) nc (s9.free nc)
        obtain ⟨s9, lts2, hL2⟩ := hW
        rw [List.length_map] at hL2
        refine ⟨_, _, rfl, Ali.rows (hL.same s9) hL2 (by rw [List.length_replicate]; omega) (fun q mq => by rw [(List.mem_replicate.mp mq).2]; show 2 ≤ 1000; decide), fun Ha sa => ⟨_, rfl, ifNo rfl ?_⟩⟩
        -- all bear it
        have s8a := s8.trans (s9.trans sa)
        have eta := s8a _ _ et6
        have hDa := s8a _ _ hD6
        refine ⟨.ref rt, rfl, rt, _, rfl, SqL.of eta, fun D3 nD3 => ?_⟩
        refine lc_it (walk_enum (xs := r.map V.int)) (fun j Hx => Same Ha Hx ∧ Hx D3 = some (.lst [])) ⟨same_new nD3, upd_same⟩ (fun j Hx _ hW => SqL.of (hW.1 _ _ eta)) (fun j v Hx Hy hj hW hY2 => ?_) (fun Hx hW => ?_)
        · obtain ⟨sx, eD⟩ := hW
          obtain ⟨U3, x1, x2, rfl, nU3, rfl, f1, f2⟩ := hY2
          obtain rfl : V.int ↑j = x1 := Option.some.inj f1
          obtain ⟨z, ez, rfl⟩ := ints_at f2
          have zr := List.mem_of_getElem? ez
          obtain ⟨g0, m0, e0, le0⟩ := fine.2 j z ez
          have sU3 := same_new (o := .tup [.int j, .int z]) nU3
          have D3U : D3 ≠ U3 := ne_of_none eD nU3
          refine ⟨U3, [.int j, .int z], rfl, SqT.of upd_same, rfl, .int j, [.int z], rfl, .int z, [], rfl, rfl, ?_⟩
          have hDx := sU3 _ _ (sx _ _ hDa)
          have hle : (j : Int) ≤ pof gi z := by
            rw [← e0, pof_is hF.nd m0]
            exact le0
          exact ⟨rfl, .int j, rfl, .ref sd, rfl, .int z, rfl, sd, _, rfl, dget_pof hDx hF.nd (zin z zr), _, _, rfl, rfl, _, rfl, ifNo (decide_eq_false (by omega)) ⟨sx.trans sU3, sU3 _ _ eD⟩⟩
        obtain ⟨sx, eD⟩ := hW
        refine ⟨Nat.zero_le _, fun em nem => ?_⟩
        have se := same_new (o := .lst []) nem
        refine ⟨dInts [], dInts [], Dp.ints (ns := []) (se _ _ eD), Dp.ints (ns := []) upd_same, (Oks.ints _).shaped, (Oks.ints _).shaped, _, rfl, ifNo rfl ?_⟩
        exact ⟨_, _, _, rfl, s6.trans (s8a.trans (sx.trans se))⟩
      · obtain ⟨y5, y6, y7, rfl, s5⟩ := hW
        exact hY _ _ ⟨_, _, _, rfl, s3.trans s5⟩
    obtain ⟨y5, y6, y7, rfl, s4⟩ := hE
    -- sizes_now
    have I4 := I2.same s4
    obtain ⟨dx4, hp4⟩ := I4.ob
    refine ⟨.ref x, rfl, x, dx4, _, rfl, hp4, iflds_no _ _ (by decide +kernel) (by decide +kernel), BB, x, d, o, ts, gi, _, rfl, I4, by omega, fun H5 rq rus s5 R5 => ⟨rq, rfl, ⟨_, R5.seq⟩, fun D nD => ?_⟩⟩
    refine lc_it (walk_list (xs := rus.map V.ref)) (fun i Hx => Same H5 Hx ∧ Hx D = some (.lst ((lens ((settle gi).take i)).map V.int))) ⟨same_new nD, upd_same⟩ (fun i Hx _ hW => (R5.same hW.1).seq) (fun i v Hq Hx hi hW hY => ?_) (fun H6 hW => ?_)
    · obtain ⟨sx, eD⟩ := hW
      obtain ⟨rfl, hx⟩ := hY
      obtain ⟨rt, r, rfl, _, er, et⟩ := (R5.same sx).get hx
      refine ⟨rfl, .ref rt, rfl, rt, _, rfl, .inl (SqL.of et), _, eD, ils (by rw [List.length_map, lens_length, List.length_take]; omega), Same.mut sx nD, ?_⟩
      rw [upd_same, take_snoc er, List.length_map]
      unfold lens
      rw [List.map_append, List.map_append]
      rfl
    obtain ⟨s6, eD⟩ := hW
    rw [List.length_map, R5.len, List.take_length] at eD
    dsimp only [gName]
    have hfall : (lens (settle gi)).Pairwise (· ≥ ·) := fall_adj fun i x y => lens_falls hF
    have s26 := s4.trans (s5.trans s6)
    refine seq_to (fun σ Hx => σ = [some (.ref t), some (.ref x), some (.ref sd), some (.ref sq), some (.ref du), y5, y6, y7, some (.ref D), none, none, none, none, none, none] ∧ Same H2 Hx) (fun Y hY => ?_) (fun σ H7 hE => ?_)
    · refine ⟨.ref D, rfl, .ref D, rfl, D, lens (settle gi), rfl, rfl, SqL.of eD, fun ns' p pm ob np => ⟨dInts (lens (settle gi)), dInts ns', Dp.ints (same_new np _ _ eD), Dp.ints upd_same, (Oks.ints _).shaped, (Oks.ints _).shaped, _, rfl, ifNo ?_ (hY _ _ ⟨rfl, s26.trans (same_new np)⟩)⟩⟩
      rw [eqv_ints, desc_uniq pm ob hfall]
      simp
    obtain ⟨rfl, s7⟩ := hE
    -- mostly no more
    have T7 := hT.same (s02.trans s7)
    have s07 := s02.trans s7
    refine seq_to (fun σ Hx => σ = [some (.ref t), some (.ref x), some (.ref sd), some (.ref sq), some (.ref du), y5, y6, y7, some (.ref D), none, none, none, none, none, none] ∧ Kp (Off t g) H7 Hx ∧ Deck Hx t g (n + 1)) (fun Y hY => ?_) (fun σ H8 hE => ?_)
    · refine ⟨.ref t, rfl, t, g, n, 4, rfl, T7, by omega, by decide, by decide, fun H8 r8 k8 T8 a8 b8 => ⟨_, _, rfl, rfl, _, rfl, ite2 (fun _ => ?_) (fun _ => hY _ _ ⟨rfl, k8, T8⟩)⟩⟩
      exact q H8 ((Kp.of s07).trans k8) (fun b e => s07.free (k8.none (T8.off e) e)) (T8.more (by omega))
    obtain ⟨rfl, k8, T8⟩ := hE
    have v8 : ∀ b, H8 b = none → H b = none := fun b e => s07.free (k8.none (T8.off e) e)
    have k08 : Kp (Off t g) H H8 := (Kp.of s07).trans k8
    have off0 : ∀ b, H b = none → Off t g b := fun b e => hT.off e
    have GS8 : GsAt H8 (fun b => H b = none ∧ ∃ v, H8 b = some v) sq sus (byAge gi) :=
      ((((GS.weaken (B' := fun b => H b = none) fun b e => (same_new nvp).free e).same (s2.trans s7)).keep (k8.weak off0)).liv).weaken fun b z => ⟨z.2, z.1⟩
    have R8 : RmsAt H8 (fun b => H b = none ∧ ∃ v, H8 b = some v) du dus (settle gi) :=
      (((R2.weaken (B' := fun b => H b = none) fun b e => s1.free e).same s7).keep (k8.weak off0)).reL fun b z e => ⟨e, z⟩
    clear R5 eD I4 hp4 GS2 R2 I2 GS
    generalize hZd : (fun b => H b = none ∧ ∃ v, H8 b = some v) = Zd at GS8 R8
    have zd : ∀ b, Zd b → H b = none ∧ ∃ v, H8 b = some v := fun b z => by rw [← hZd] at z; exact z
    -- other = Inn()
    refine fun x2 dx2 nx2 ndx2 ne2 => ⟨x2, dx2, rfl, upd_same, fun d2 o2 H9 nd2 no2 Ig kg => ⟨rfl, ?_⟩⟩
    have s0 : Same H8 (upd (upd H8 dx2 (.own x2)) x2 (.ins C dx2 [])) := fun b u e => by
      rw [upd_ne (ne_of_none e nx2), upd_ne (ne_of_none e ndx2)]
      exact e
    have sg : Same H8 H9 := fun b u e => kg b u (ne_of_none e nx2) (s0 b u e)
    have Jg : InnAt C H9 (fun b => H8 b = none) x2 d2 o2 [] [] [] := Ig.reB fun b _ hb => hb.elim (fun y => y ▸ nx2) fun e => s0.free e
    have W0 : One C H t g x2 d2 o2 (n + 1) Zd (fun b => H8 b = none ∧ ∃ v, H9 b = some v) [] [] H9 :=
      ⟨by
        rw [settle_no]
        exact Jg.reB (B' := fun b => H8 b = none ∧ ∃ v, H9 b = some v) fun b z hb => ⟨hb, z⟩, fun b hb z => dead_live hb.1 (zd b z).2, fun b hb => v8 b hb.1, fun b z => let ⟨v, e⟩ := (zd b z).2; ⟨v, sg _ _ e⟩, fun b z => (zd b z).1, k08.trans (Kp.of sg), fun b e => v8 b (sg.free e), T8.same sg, off0⟩
    have GS9 := GS8.same sg
    dsimp only [gName]
    -- left = list(some)
    refine ⟨.ref sq, rfl, sq, _, rfl, .inl GS9.seq, fun lf nlf => ?_⟩
    have slf := same_new (o := .lst (sus.map V.ref)) nlf
    have W1 := W0.grow (Z' := fun b => b = lf) slf (fun b z => z ▸ nlf) fun b z => ⟨.lst (sus.map V.ref), by rw [z, upd_same]⟩
    have GL : GsAt (upd H9 lf (.lst (sus.map V.ref))) (fun b => Zd b ∨ b = lf) lf sus (byAge gi) := ⟨upd_same, .inr rfl, GS9.len, fun i t g e1 e2 => slf _ _ (GS9.at' i t g e1 e2), fun t m => .inl (GS9.b t m)⟩
    have KZ : Kp Zd H8 (upd H9 lf (.lst (sus.map V.ref))) := Kp.of (sg.trans slf)
    have zlf : ¬ Zd lf := fun z => dead_live (sg.free nlf) (zd lf z).2
    dsimp only [gName]
    clear GS9 W0 Jg Ig kg s0
    revert W1 GL KZ
    generalize upd H9 lf (.lst (sus.map V.ref)) = H10
    clear slf
    intro W1 GL KZ
    have lby : (byAge gi).length = gi.length := byAge_length gi
    refine seq_to (fun σ Hx => ∃ y11 y12 y13 BB2 ts2 gi2, σ = [some (.ref t), some (.ref x), some (.ref sd), some (.ref sq), some (.ref du), y5, y6, y7, some (.ref D), some (.ref x2), some (.ref lf), y11, y12, y13, none] ∧ One C H t g x2 d2 o2 (n + 70) (fun b => Zd b ∨ b = lf) BB2 ts2 gi2 Hx ∧ gi2.Perm gi ∧ Kp Zd H8 Hx) (fun Y hY => ?_) (fun σ H11 hE => ?_)
    · have GSx := GS8.keep KZ
      refine ⟨.ref sq, rfl, sq, _, rfl, .inl GSx.seq, _, rfl, by rw [List.length_map, GSx.len]; omega, by rw [List.length_map, GSx.len]; omega, ?_⟩
      refine for_it walk_range (fun k σ Hx => ∃ y11 y12 y13 BB2 ts2 w ga gi2, σ = [some (.ref t), some (.ref x), some (.ref sd), some (.ref sq), some (.ref du), y5, y6, y7, some (.ref D), some (.ref x2), some (.ref lf), y11, y12, y13, none] ∧ One C H t g x2 d2 o2 (n + 1 + k) (fun b => Zd b ∨ b = lf) BB2 ts2 gi2 Hx ∧ GsAt Hx (fun b => Zd b ∨ b = lf) lf w ga ∧ (ga ++ gi2).Perm gi ∧ gi2.length = k ∧ Kp Zd H8 Hx)
        ⟨_, _, _, _, _, _, _, _, rfl, W1, GL, by rw [List.append_nil]; exact hperm, rfl, KZ⟩ (fun _ _ _ _ _ => trivial) (fun k v σ Hx Hy hk hW hY2 => ?_) (fun σ Hx hW => ?_)
      · obtain ⟨y11, y12, y13, BB2, ts2, w, ga, gi2, rfl, W, G, pm, lg, kz⟩ := hW
        obtain ⟨rfl, rfl⟩ := hY2
        have hk' : k < gi.length := by
          rw [List.length_map, GSx.len] at hk
          omega
        have lall : ga.length + gi2.length = gi.length := by
          rw [← List.length_append, pm.length_eq]
        dsimp only [gName]
        refine ⟨.ref lf, rfl, .inl ⟨rfl, _, G.seq⟩, .ref t, rfl, .ref lf, rfl, lf, _, rfl, .inl G.seq, t, g, _, _, rfl, W.deck, by omega, ?_, ?_, fun Hz r kr Tr r0 r1 => ?_⟩
        · rw [List.length_map, G.len]
          omega
        · rw [List.length_map, G.len]
          exact Int.lt_of_lt_of_le (show (ga.length : Int) < 1001 by omega) (by decide)
        rw [List.length_map, G.len] at r1
        obtain ⟨W2, kz2⟩ := W.draw kr Tr
        have G2 := G.keep kz2
        have kz' := kz.trans (kz2.weak fun b z => .inl z)
        obtain ⟨j, rfl⟩ : ∃ j : Nat, r = j := ⟨r.toNat, by omega⟩
        obtain ⟨y, ey⟩ := at_some (l := ga) (i := j) (by omega)
        obtain ⟨tj, etj⟩ := at_some (l := w) (i := j) (by rw [G2.len]; omega)
        have hj := G2.at' j tj y etj ey
        have tja : tj ≠ lf := fun z => G2.offTs (z ▸ List.mem_of_getElem? etj)
        refine ⟨lf, _, _, j, .ref tj, rfl, rfl, G2.top, by omega, by omega, seq_ix (by rw [List.length_map, G2.len]; omega), by rw [List.getElem?_map, etj]; rfl, ?_⟩
        refine ⟨tj, _, rfl, SqT.of (by rw [upd_ne tja]; exact hj), rfl, .int y.1, _, rfl, .int y.2, _, rfl, rfl, ?_⟩
        dsimp only [gName]
        have W3 := W2.mut (p := lf) (v := .lst ((w.map V.ref).eraseIdx j)) (fun hb => W2.bz lf hb (.inr rfl)) (W2.z5 lf (.inr rfl))
        have G3 := G2.cut j
        have kz3 : Kp Zd H8 (upd Hz lf (.lst ((w.map V.ref).eraseIdx j))) := kz'.mut zlf
        clear W W2 G G2 kz kz2 kz' hj
        revert W3 G3 kz3
        generalize upd Hz lf (.lst ((w.map V.ref).eraseIdx j)) = Ha
        intro W3 G3 kz3
        have hmem : y ∈ ga := List.mem_of_getElem? ey
        have ndp : ((ga ++ gi2).map (·.1)).Nodup := (pm.map (·.1)).nodup_iff.mpr hF.nd
        have hnot : y.1 ∉ gi2.map (·.1) := fun m => by
          have h1 := ndp
          rw [List.map_append] at h1
          exact (List.nodup_append.mp h1).2.2 _ (List.mem_map_of_mem hmem) _ m rfl
        have Fi : Fit gi2 := ⟨by
          have h1 := ndp
          rw [List.map_append] at h1
          exact (List.nodup_append.mp h1).2.1, fun z m => hF.pos z (pm.mem_iff.mp (List.mem_append_right _ m))⟩
        have Fy : Fit (gi2 ++ [y]) := Fi.snoc hnot (hF.pos y (pm.mem_iff.mp (List.mem_append_left _ hmem)))
        obtain ⟨dxa, hpa⟩ := W3.i.ob
        refine ⟨.ref x2, rfl, x2, dxa, _, rfl, hpa, iflds_no _ _ (by decide +kernel) (by decide +kernel), .int y.1, rfl, .int y.2, rfl, _, x2, d2, o2, ts2, gi2, y, rfl, W3.i, Fy, by omega, fun Hb q1 us1 ts1 I1 G1 kc1 vc1 => ?_⟩
        obtain ⟨W4, kz4, _⟩ := W3.inn I1 G1 kc1 vc1
        exact ⟨_, _, _, _, ts1, _, ga.eraseIdx j, gi2 ++ [y], rfl, W4.more (by omega), G3.keep kz4, come_perm ey pm, by rw [List.length_append, lg]; rfl, kz3.trans (kz4.weak fun b z => .inl z)⟩
      · obtain ⟨y11, y12, y13, BB2, ts2, w, ga, gi2, rfl, W, G, pm, lg, kz⟩ := hW
        rw [List.length_map, GSx.len] at lg W
        have ga0 : ga = [] := by
          have h1 := pm.length_eq
          rw [List.length_append] at h1
          exact List.eq_nil_of_length_eq_zero (by omega)
        rw [ga0, List.nil_append] at pm
        exact hY _ _ ⟨_, _, _, _, _, _, rfl, W.more (by omega), pm, kz⟩
    obtain ⟨y11, y12, y13, BB2, ts2, gi2, rfl, W, pm, kz⟩ := hE
    have Ix := hI.keep (W.k.weak hB)
    have Rx := R8.keep kz
    obtain ⟨dxa, hpa⟩ := W.i.ob
    obtain ⟨dxb, hpb⟩ := Ix.ob
    have F2 : Fit gi2 := hF.perm pm
    have l2 : (settle gi2).length ≤ 60 := by rw [settle_congr hF pm]; exact lset
    refine ⟨.ref x2, rfl, .ref x, rfl, x2, x, dxa, dxb, _, _, rfl, rfl, hpa, hpb, BB2, BB, x2, d2, o2, x, d, o, ts2, ts, _, _, _, _, rfl, W.i, Ix, F2.nd, pm, true, rfl, true, rfl, ?_⟩
    refine ⟨.ref x2, rfl, x2, dxa, _, rfl, hpa, iflds_no _ _ (by decide +kernel) (by decide +kernel), BB2, x2, d2, o2, ts2, gi2, _, rfl, W.i, by omega, fun H12 rq2 rus2 sY Ry => ?_⟩
    refine ⟨.ref du, rfl, dRows (settle gi2), dRows (settle gi), Ry.dp, (Rx.same sY).dp, (Oks.rows _).shaped, (Oks.rows _).shaped, ?_⟩
    rw [settle_congr hF pm, (Oks.rows _).eqv]
    exact q H12 (W.k.trans (Kp.of sY)) (fun b e => W.v b (sY.free e)) (W.deck.same sY)
end
end El
namespace El
open PySem PySem.Spec PyProof.Rows L2
section
variable {C : Addr} {H5 H8 H9 : Hp} {t g x d o so sd : Addr} {n m : Nat} {Z BB BS : Addr → Prop} {ts sts : List Addr} {gi gf : List (Int × Int)} {S : List (List Int)}
/-- more is set apart, all of it new -/
theorem Two.grow {Z' : Addr → Prop} (h : Two C H5 t g x d o so sd n Z BB BS ts sts gi gf S H8) (s : Same H8 H9) (nz : ∀ b, Z' b → H8 b = none) (zl : ∀ b, Z' b → ∃ v, H9 b = some v) :
    Two C H5 t g x d o so sd n (fun b => Z b ∨ Z' b) (fun b => BB b ∧ ∃ v, H8 b = some v) (fun b => BS b ∧ ∃ v, H8 b = some v) ts sts gi gf S H9 := by
  have hs := h.same s
  exact ⟨(h.i.reB (B' := fun b => BB b ∧ ∃ v, H8 b = some v) fun b z hb => ⟨hb, z⟩).same s, (h.r.reL (B' := fun b => BS b ∧ ∃ v, H8 b = some v) fun b z hb => ⟨hb, z⟩).same s, h.e, hs.dd, fun b hb => ⟨fun z => (h.bs b hb.1).1 z.1, (h.bs b hb.1).2.1, fun z => z.elim (h.bs b hb.1).2.2 fun z => dead_live (nz b z) hb.2⟩, fun b hb => h.b5 b hb.1, fun b hb => ⟨(h.ss b hb.1).1, fun z => z.elim (h.ss b hb.1).2 fun z => dead_live (nz b z) hb.2⟩, fun b hb => h.s5 b hb.1, fun b z => z.elim (fun z => let ⟨v, e⟩ := h.zl b z; ⟨v, s _ _ e⟩) (zl b), fun b z => z.elim (h.z5 b) fun z => h.v b (nz b z), fun z => z.elim h.zs fun z => dead_live (nz sd z) ⟨_, h.dd⟩, h.d5, hs.k, hs.v, hs.deck, h.off⟩
theorem Two.mutZ {p : Addr} {v : HO} (h : Two C H5 t g x d o so sd n Z BB BS ts sts gi gf S H8) (z : Z p) : Two C H5 t g x d o so sd n Z BB BS ts sts gi gf S (upd H8 p v) :=
  h.mut (fun hb => (h.bs p hb).2.2 z) (fun hb => (h.ss p hb).2 z) (fun e => h.zs (e ▸ z)) (h.z5 p z)
end
/-- what is told stays, whoever changes the Inn, or the law's own rooms and dict -/
theorem butA_app {ga gi : List (Int × Int)} {a : Int} (h : a ∉ ga.map (·.1)) : butA (ga ++ gi) a = ga ++ butA gi a := by
  unfold butA
  have e : ga.filter (fun g => decide (g.1 ≠ a)) = ga := List.filter_eq_self.mpr fun y m => decide_eq_true fun (e : y.1 = a) => h (e ▸ List.mem_map_of_mem m)
  rw [List.filter_append, e]
section
variable {P : Program} {w : World} {K : PySem.W.Frag} {mg : Str → Option Value} {base : Heap}
abbrev s__law_deed_right : Stmt := topS 21
abbrev N__law_deed_right : List Str := ["deck", "made", "stand", "folk", "away", "way", "old", "bears", "due"]
abbrev P__law_deed_right : List Str := ["deck", "made", "stand", "folk", "away"]
theorem sc__law_deed_right : FnScope N__law_deed_right P__law_deed_right (defScope s__law_deed_right) := ⟨rfl, rfl, rfl, by decide +kernel, rfl, by decide +kernel, by decide +kernel⟩
/-- how it stands between the deeds -/
def Deeds (C : Addr) (H5 : Hp) (t g x d o so sd av : Addr) (n : Nat) (k : Nat) (gi : List (Int × Int)) (H : Hp) : Prop :=
  ∃ (Z BB BS : Addr → Prop) (ts sts wa : List Addr) (ga : List (Int × Int)) (S : List (List Int)), Two C H5 t g x d o so sd n Z BB BS ts sts gi gi S H ∧ GsAt H Z av wa ga ∧ Fit (ga ++ gi) ∧ ga.length + gi.length = k
def sp__law_deed_right (C : Addr) : Sp := fun vs H Q _ => ∃ (H5 : Hp) (t g x d o so sd av : Addr) (n k : Nat) (gi : List (Int × Int)), vs = [.ref t, .ref x, .ref so, .ref sd, .ref av] ∧ Deeds C H5 t g x d o so sd av n k gi H ∧ k ≤ 60 ∧ n ≤ 800000000 ∧
  ∀ H' gi', Deeds C H5 t g x d o so sd av (n + 4) k gi' H' → Q (.bl true) H'
theorem ok__law_deed_right {C : Addr} (A : At K mg "_law_deed_right" P__law_deed_right s__law_deed_right) (B : Bi mg) (T : InnT K mg C)
    (M_come : Mf P w K mg base 2 C "come" "Inn.come" P_Inn_come s_Inn_come (sp_Inn_come C)) (M_go : Mf P w K mg base 3 C "go" "Inn.go" P_Inn_go s_Inn_go (sp_Inn_go C)) (M_turn : Mf P w K mg base 4 C "turn" "Inn.turn" P_Inn_turn s_Inn_turn (sp_Inn_turn C))
    (D__law_take : Df P w K mg base 1 "_law_take" P__law_take s__law_take sp__law_take) (D__law_goes : Df P w K mg base 1 "_law_goes" P__law_goes s__law_goes sp__law_goes) (D__law_comes : Df P w K mg base 2 "_law_comes" P__law_comes s__law_comes sp__law_comes) :
    Df P w K mg base 5 "_law_deed_right" P__law_deed_right s__law_deed_right (sp__law_deed_right C) := by
  refine A.df fun f fd F => F.ok sc__law_deed_right (fun vs H Q E h => ?_) (fun cdv AA outer s H vs Q E hr h => ?_)
  · obtain ⟨_, _, _, _, _, _, _, _, _, _, _, _, rfl, _⟩ := h
    rfl
  · obtain ⟨H5, t, g, x, d, o, so, sd, av, n, k, gi, rfl, ⟨Z0, BB0, BS0, ts, sts, wa, ga, S, W0, G0, hF, hlen⟩, hk, hn, q⟩ := h
    have nd := sc__law_deed_right.nd
    refine ⟨_, (pss_cons (ps_set (i := 5) nd rfl (.inl rfl) (pe_df D__law_take (hr.mono (by decide)) (by rfl) (pa_cons (pv 0) (pa_cons pe_int pa_nil))))
    (pss_cons (ps_if (PW.pt (pw_and (pt_cmpR op_lt (pv 5) pe_int (nomark _)) (pw_and1 (pt_cmpR (op_neD hr.units) (pv 4) (pe_lst pa_nil) (nomark _))))) (pss_cons (ps_asg (pe_bm PySem.F.plainAttrs_list PySem.F.slot_list_pop PySem.F.type_list_pop mt_popAt (pv 4) (pa_cons (pe_df D__law_take (hr.mono (by decide)) (by rfl) (pa_cons (pv 0) (pa_cons (pe_callB call_len_seq (by rfl) B.len PySem.boot_len (pa_cons (pv 4) pa_nil)) pa_nil))) pa_nil)) (pg_tup (by rfl) (pgs_cons (pg_name (i := 6) nd rfl (.inl rfl)) (pgs_cons (pg_name (i := 7) nd rfl (.inl rfl)) pgs_nil)))) (pss_one (ps_ret (pe_cmpR (op_eqD hr.units) (pe_mf M_come T.cl (hr.mono (by decide)) (pv 1) (pa_cons (pv 6) (pa_cons (pv 7) pa_nil))) (pe_df D__law_comes (hr.mono (by decide)) (by rfl) (pa_cons (pv 2) (pa_cons (pv 3) (pa_cons (pv 6) (pa_cons (pv 7) pa_nil))))) (nomark _))))) pss_nil)
    (pss_cons (ps_if (pt_cmpR (op_eq_pks hr.units0) (pv 3) pe_dnewK (nomark _)) (pss_one (ps_ret pe_bl)) pss_nil)
    (pss_cons (ps_set (i := 6) nd rfl (.inl rfl) (pe_ix ix_list (pe_callB (call_sortedDI rfl) (by rfl) B.sorted (by decide +kernel) (pa_cons (pv 3) pa_nil)) (pe_df D__law_take (hr.mono (by decide)) (by rfl) (pa_cons (pv 0) (pa_cons (pe_callB call_lenD (by rfl) B.len PySem.boot_len (pa_cons (pv 3) pa_nil)) pa_nil))) (fun _ _ => rfl)))
    (pss_cons (ps_set (i := 7) nd rfl (.inl rfl) (pe_dget (hu_of hr) (pv 3) (pv 6) (fun _ _ => rfl)))
    (pss_cons (ps_set (i := 8) nd rfl (.inl rfl) (pe_df D__law_goes (hr.mono (by decide)) (by rfl) (pa_cons (pv 2) (pa_cons (pv 3) (pa_cons (pv 6) pa_nil)))))
    (pss_cons (ps_if (pt_cmpR op_lt (pv 5) pe_int (nomark _)) (pss_cons (ps_expr (pe_bm PySem.F.plainAttrs_list PySem.F.slot_list_append PySem.F.type_list_append mt_append (pv 4) (pa_cons (pe_tup (pa_cons (pv 6) (pa_cons (pv 7) pa_nil))) pa_nil))) (pss_one (ps_ret (pe_cmpR (op_eqD hr.units) (pe_mf M_go T.cl (hr.mono (by decide)) (pv 1) (pa_cons (pv 6) pa_nil)) (pv 8) (nomark _))))) pss_nil)
    (pss_cons (ps_set (i := 7) nd rfl (.inl rfl) (pe_ix ix_list (pe_lst (pa_cons pe_int (pa_cons (pe_df D__law_take (hr.mono (by decide)) (by rfl) (pa_cons (pv 0) (pa_cons pe_int pa_nil))) (pa_cons (pe_op op_pow pe_int pe_int) pa_nil)))) (pe_df D__law_take (hr.mono (by decide)) (by rfl) (pa_cons (pv 0) (pa_cons pe_int pa_nil))) (fun _ _ => rfl)))
    (pss_cons (ps_set (i := 8) nd rfl (.inl rfl) (pe_op op_cat (pv 8) (pe_df D__law_comes (hr.mono (by decide)) (by rfl) (pa_cons (pv 2) (pa_cons (pv 3) (pa_cons (pv 6) (pa_cons (pv 7) pa_nil)))))))
    (pss_one (ps_ret (pe_cmpR (op_eqD hr.units) (pe_mf M_turn T.cl (hr.mono (by decide)) (pv 1) (pa_cons (pv 6) (pa_cons (pv 7) pa_nil))) (pv 8) (nomark _))))))))))))), ?_⟩
    have Fi : Fit gi := ⟨by
      have h1 := hF.nd
      rw [List.map_append] at h1
      exact (List.nodup_append.mp h1).2.1, fun z m => hF.pos z (List.mem_append_right _ m)⟩
    have lset : (settle gi).length ≤ gi.length := by
      have := settleL_len (byAge gi)
      rw [byAge_length] at this
      exact this
    -- way = _law_take(deck, 5)
    refine ⟨.ref t, rfl, t, g, n, 5, rfl, W0.deck, by omega, by decide, by decide, fun H1 way k1 T1 a1 b1 => ?_⟩
    have W1 := W0.draw k1 T1
    have G1 := G0.keep (k1.weak fun b z => W0.off _ (W0.z5 b z))
    clear W0 G0
    dsimp only [gName]
    refine seq_to (fun σ Hx => σ = [some (.ref t), some (.ref x), some (.ref so), some (.ref sd), some (.ref av), some (.int way), none, none, none] ∧ Two C H5 t g x d o so sd (n + 1) Z0 BB0 BS0 ts sts gi gi S Hx ∧ GsAt Hx Z0 av wa ga) (fun Y hY => ?_) (fun σ H2 hE => ?_)
    · refine ⟨.int way, rfl, way, 3, rfl, rfl, _, rfl, ?_⟩
      by_cases hw : way < 3
      · rw [decide_eq_true hw]
        refine ifYes rfl ⟨.ref av, rfl, Nat.zero_le _, fun u nu => ?_⟩
        have su := same_new (o := .lst []) nu
        refine ⟨dGs ga, dInts [], (G1.same su).dp, Dp.ints (ns := []) upd_same, (Oks.gs _).shaped, (Oks.ints _).shaped, _, rfl, ?_⟩
        rw [eqv_noGs]
        have W2 := W1.same su
        have G2 := G1.same su
        revert W2 G2
        generalize upd H1 u (.lst []) = H2
        intro W2 G2
        by_cases hne : ga = []
        · have e1 : ga.isEmpty = true := by rw [hne]; rfl
          rw [e1]
          exact ifNo rfl (hY _ _ ⟨rfl, W2, G2⟩)
        have e1 : ga.isEmpty = false := by
          cases ga with
          | nil => exact absurd rfl hne
          | cons _ _ => rfl
        have hpos : 0 < ga.length := by
          cases ga with
          | nil => exact absurd rfl hne
          | cons _ _ => exact Nat.succ_pos _
        rw [e1]
        refine ifYes rfl ?_
        refine ⟨.ref av, rfl, .inl ⟨rfl, _, G2.seq⟩, .ref t, rfl, .ref av, rfl, av, _, rfl, .inl G2.seq, t, g, _, _, rfl, W2.deck, by omega, ?_, ?_, fun H3 r3 k3 T3 a3 b3 => ?_⟩
        · rw [List.length_map, G2.len]
          omega
        · rw [List.length_map, G2.len]
          exact Int.lt_of_lt_of_le (show (ga.length : Int) < 1001 by omega) (by decide)
        rw [List.length_map, G2.len] at b3
        have W3 := W2.draw k3 T3
        have G3 := G2.keep (k3.weak fun b z => W2.off _ (W2.z5 b z))
        obtain ⟨j, rfl⟩ : ∃ j : Nat, r3 = j := ⟨r3.toNat, by omega⟩
        obtain ⟨y, ey⟩ := at_some (l := ga) (i := j) (by omega)
        obtain ⟨tj, etj⟩ := at_some (l := wa) (i := j) (by rw [G3.len]; omega)
        have hj := G3.at' j tj y etj ey
        have tja : tj ≠ av := fun z => G3.offTs (z ▸ List.mem_of_getElem? etj)
        refine ⟨av, _, _, j, .ref tj, rfl, rfl, G3.top, by omega, by omega, seq_ix (by rw [List.length_map, G3.len]; omega), by rw [List.getElem?_map, etj]; rfl, ?_⟩
        refine ⟨tj, _, rfl, SqT.of (by rw [upd_ne tja]; exact hj), rfl, .int y.1, _, rfl, .int y.2, _, rfl, rfl, ?_⟩
        dsimp only [gName]
        have W4 := W3.mutZ (p := av) (v := .lst ((wa.map V.ref).eraseIdx j)) G3.ba
        have G4 := G3.cut j
        clear W2 G2 W3 G3 W1 G1 hj
        revert W4 G4
        generalize upd H3 av (.lst ((wa.map V.ref).eraseIdx j)) = H4
        intro W4 G4
        have hmem : y ∈ ga := List.mem_of_getElem? ey
        have hnot : y.1 ∉ gi.map (·.1) := fun m => by
          have h1 := hF.nd
          rw [List.map_append] at h1
          exact (List.nodup_append.mp h1).2.2 _ (List.mem_map_of_mem hmem) _ m rfl
        have Fy : Fit (gi ++ [y]) := Fi.snoc hnot (hF.pos y (List.mem_append_left _ hmem))
        obtain ⟨dx4, hp4⟩ := W4.i.ob
        refine ⟨.ref x, rfl, x, dx4, _, rfl, hp4, iflds_no _ _ (by decide +kernel) (by decide +kernel), .int y.1, rfl, .int y.2, rfl, _, x, d, o, ts, gi, y, rfl, W4.i, Fy, by omega, fun H6 q1 us1 ts1 I1 Gq kc1 vc1 => ?_⟩
        obtain ⟨W5, kz5, Gq5⟩ := W4.inn I1 Gq kc1 vc1
        have G5 := G4.keep kz5
        refine ⟨.ref so, rfl, .ref sd, rfl, .int y.1, rfl, .int y.2, rfl, _, so, sd, sts, S, gi, y, rfl, W5.r, W5.dd, W5.e, Fy, by omega, fun H7 qb usb stsb Sb Rb hSb hdb Gb kb vb => ?_⟩
        obtain ⟨W6, kz6⟩ := W5.stand Rb hSb hdb kb vb
        have G6 := G5.keep kz6
        have Gq6 := Gq5.keep (kb.weak fun b z => ⟨fun e => z.2.1 (e ▸ W5.r.bo), z.2.2.1⟩)
        refine ⟨dGs (comeT gi y), dGs (comeT gi y), Gq6.dp, Gb.dp, (Oks.gs _).shaped, (Oks.gs _).shaped, ?_⟩
        rw [(Oks.gs _).eqv]
        have pm : (ga.eraseIdx j ++ (gi ++ [y])).Perm (ga ++ gi) := come_perm ey (.refl _)
        refine q _ _ ⟨_, _, _, _, _, _, ga.eraseIdx j, _, W6.more (by omega), G6, hF.perm pm, ?_⟩
        rw [← List.length_append, pm.length_eq, List.length_append, hlen]
      · rw [decide_eq_false hw]
        exact ifNo rfl (ifNo rfl (hY _ _ ⟨rfl, W1, G1⟩))
    obtain ⟨rfl, W, G⟩ := hE
    clear W1 G1
    -- folk == {}
    refine seq_to (fun σ Hx => σ = [some (.ref t), some (.ref x), some (.ref so), some (.ref sd), some (.ref av), some (.int way), none, none, none] ∧ Two C H5 t g x d o so sd (n + 1) Z0 BB0 BS0 ts sts gi gi S Hx ∧ GsAt Hx Z0 av wa ga ∧ gi ≠ []) (fun Y hY => ?_) (fun σ H3 hE => ?_)
    · refine ⟨.ref sd, rfl, fun p np => ?_⟩
      have sp := same_new (o := .dK []) np
      refine ⟨sd, p, gi, [], rfl, rfl, sp _ _ W.dd, upd_same, _, rfl, ?_⟩
      have W2 := W.same sp
      have G2 := G.same sp
      cases hg : gi with
      | nil =>
        rw [hg] at W2 hF hlen
        exact ifYes rfl (q _ _ ⟨_, _, _, _, _, _, _, _, W2.more (by omega), G2, hF, hlen⟩)
      | cons y r =>
        refine ifNo (unlike_len (by simp)) (hY _ _ ⟨rfl, W2, G2, fun z => ?_⟩)
        rw [hg] at z
        cases z
    obtain ⟨rfl, W1, G1, hne⟩ := hE
    clear W G
    -- old = sorted(folk)[..]
    refine ⟨.ref sd, rfl, sd, pks gi, gi.map (·.1), rfl, .inl W1.dd, ?_, ?_, fun ys sp pys _ nsp => ?_⟩
    · rw [show pks gi = gi.map fun g => ((Sum.inl g.1 : L2.Key), V.int g.2) from rfl, List.map_map, List.map_map]
      rfl
    · rw [List.length_map]
      omega
    have lys : ys.length = gi.length := by rw [pys.length_eq, List.length_map]
    have ssp := same_new (o := .lst (ys.map V.int)) nsp
    have W2 := W1.same ssp
    have G2 := G1.same ssp
    have osp : Off t g sp := W1.deck.off nsp
    have hpos : 0 < gi.length := List.length_pos_iff.mpr hne
    refine ⟨.ref t, rfl, .ref sd, rfl, sd, _, rfl, W2.dd, t, g, _, _, rfl, W2.deck, by omega, ?_, ?_, fun H4 r3 k4 T4 r30 r31 => ?_⟩
    · rw [pks_len]
      omega
    · rw [pks_len]
      exact Int.lt_of_lt_of_le (show (gi.length : Int) < 1001 by omega) (by decide)
    rw [pks_len] at r31
    obtain ⟨j, rfl⟩ : ∃ j : Nat, r3 = j := ⟨r3.toNat, by omega⟩
    have hj : j < ys.length := by omega
    obtain ⟨old, eo⟩ := at_some hj
    refine ⟨sp, _, _, .int old, rfl, rfl, SqL.of (k4 _ _ osp upd_same), atI_nat (by rw [List.getElem?_map, eo]; rfl), ?_⟩
    dsimp only [gName]
    have W4 := W2.draw k4 T4
    have G4 := G2.keep (k4.weak fun b z => W2.off _ (W2.z5 b z))
    clear W1 G1 W2 G2 ssp k4
    have oin : old ∈ gi.map (·.1) := pys.mem_iff.mp (List.mem_of_getElem? eo)
    obtain ⟨y0, my0, ey0⟩ := List.mem_map.mp oin
    have yold : y0 = (old, pof gi old) := by
      have h2 := pof_is Fi.nd my0
      rw [ey0] at h2
      exact Prod.ext ey0 h2.symm
    have oat : (old, pof gi old) ∈ gi := yold ▸ my0
    have hpof : 0 ≤ pof gi old := Fi.pos _ oat
    have onot : old ∉ ga.map (·.1) := fun m => by
      have h1 := hF.nd
      rw [List.map_append] at h1
      exact (List.nodup_append.mp h1).2.2 _ m _ oin rfl
    have pbut : ((old, pof gi old) :: butA gi old).Perm gi := without_perm Fi oat
    have lbut : (butA gi old).length + 1 = gi.length := pbut.length_eq
    -- bears = folk[old]
    refine ⟨.ref sd, rfl, .int old, rfl, sd, _, rfl, dget_pof W4.dd Fi.nd oin, ?_⟩
    dsimp only [gName]
    -- due = _law_goes(stand, folk, old)
    refine ⟨.ref so, rfl, .ref sd, rfl, .int old, rfl, BS0, so, sd, sts, S, gi, old, rfl, W4.r, W4.dd, W4.e, Fi, oin, by omega, fun H6 qa usa stsa Sa Ra hSa hda Ga ka va => ?_⟩
    dsimp only [gName]
    obtain ⟨W6, kz6⟩ := W4.stand (Ra.weaken fun b z => z.1) hSa hda ka va
    have G6 := G4.keep kz6
    refine seq_to (fun σ Hx => σ = [some (.ref t), some (.ref x), some (.ref so), some (.ref sd), some (.ref av), some (.int way), some (.int old), some (.int (pof gi old)), some (.ref qa)] ∧ Hx = H6) (fun Y hY => ?_) (fun σ H7 hE => ?_)
    · refine ⟨.int way, rfl, way, 4, rfl, rfl, _, rfl, ite2 (fun _ => ?_) (fun _ => hY _ _ ⟨rfl, rfl⟩)⟩
      -- away.append((old, bears))
      refine ⟨.ref av, rfl, .inl ⟨rfl, _, G6.seq⟩, .int old, rfl, .int (pof gi old), rfl, (by show 2 ≤ sizeLine; decide), fun tt nt => ⟨av, _, .ref tt, rfl, rfl, (same_new nt) _ _ G6.top, ils (by rw [List.length_map, G6.len]; omega), ?_⟩⟩
      have st := same_new (o := .tup [.int old, .int (pof gi old)]) nt
      have W7 := (W6.grow (Z' := fun b => b = tt) st (fun b z => z ▸ nt) fun b z => ⟨.tup [.int old, .int (pof gi old)], by rw [z, upd_same]⟩).mutZ (p := av) (v := .lst (wa.map V.ref ++ [.ref tt])) (.inl G6.ba)
      have G7 := ((G6.same st).weaken (B' := fun b => Z0 b ∨ b = tt) fun b z => .inl z).push (g := (old, pof gi old)) G6.offTs upd_same (.inr rfl)
      have D7 : GsAt (upd (upd H6 tt (.tup [.int old, .int (pof gi old)])) av (.lst (wa.map V.ref ++ [.ref tt]))) (fun b => H4 b = none) qa usa (goT gi old) := (Ga.same st).keep (Kp.mut Kp.refl fun e => by
        rw [G4.top] at e
        cases e)
      revert W7 G7 D7
      generalize upd (upd H6 tt (.tup [.int old, .int (pof gi old)])) av (.lst (wa.map V.ref ++ [.ref tt])) = H7
      clear st
      intro W7 G7 D7
      obtain ⟨dx7, hp7⟩ := W7.i.ob
      refine ⟨.ref x, rfl, x, dx7, _, rfl, hp7, iflds_no _ _ (by decide +kernel) (by decide +kernel), .int old, rfl, _, x, d, o, ts, gi, old, rfl, W7.i, Fi, oin, by omega, fun H9 q3 us3 ts3 I3 Gq k3 v3 => ?_⟩
      obtain ⟨W9, kz9, Gq9⟩ := W7.inn I3 Gq k3 v3
      refine ⟨.ref qa, rfl, dGs (goT gi old), dGs (goT gi old), Gq9.dp, (D7.keep (k3.weak fun b e z => dead_live e z.1.2)).dp, (Oks.gs _).shaped, (Oks.gs _).shaped, ?_⟩
      rw [(Oks.gs _).eqv]
      have pm : ((ga ++ [(old, pof gi old)]) ++ butA gi old).Perm (ga ++ gi) := by
        rw [List.append_assoc]
        exact List.Perm.append_left ga pbut
      refine q _ _ ⟨_, _, _, _, _, _, ga ++ [(old, pof gi old)], _, W9.more (by omega), G7.keep kz9, hF.perm pm, ?_⟩
      rw [← List.length_append, pm.length_eq, List.length_append, hlen]
    obtain ⟨rfl, rfl⟩ := hE
    -- bears = [0, .., 10 ** 29][..]
    refine ⟨.ref t, rfl, t, g, _, 4, rfl, W6.deck, by omega, by decide, by decide, fun H8 r4 k8 T8 a4 b4 => ?_⟩
    have W8 := W6.draw k8 T8
    have G8 := G6.keep (k8.weak fun b z => W6.off _ (W6.z5 b z))
    have D8 : GsAt H8 (fun b => H4 b = none) qa usa (goT gi old) := Ga.keep (k8.weak fun b e => W4.off _ (W4.v b e))
    refine ⟨_, _, rfl, rfl, ⟨by decide, by decide, by decide⟩, (by show 3 ≤ sizeLine; decide), fun pl npl => ?_⟩
    have spl := same_new (o := .lst [.int 0, .int r4, .int (10 ^ Int.toNat 29)]) npl
    have W9 := W8.same spl
    have opl : Off t g pl := W8.deck.off npl
    refine ⟨.ref t, rfl, t, g, _, 3, rfl, W9.deck, by omega, by decide, by decide, fun H9 r5 k9 T9 a5 b5 => ?_⟩
    have W10 := W9.draw k9 T9
    have G10 := (G8.same spl).keep (k9.weak fun b z => W9.off _ (W9.z5 b z))
    have D10 := (D8.same spl).keep (k9.weak fun b e => W4.off _ (W4.v b e))
    obtain ⟨v7, hv7, mv7⟩ := at_pick (xs := [V.int 0, .int r4, .int (10 ^ Int.toNat 29)]) a5 b5
    refine ⟨pl, _, _, v7, rfl, rfl, SqL.of (k9 _ _ opl upd_same), hv7, ?_⟩
    have mb : ∃ be : Int, v7 = .int be ∧ 0 ≤ be := by
      rcases List.mem_cons.mp mv7 with rfl | mv7
      · exact ⟨_, rfl, Int.le_refl _⟩
      rcases List.mem_cons.mp mv7 with rfl | mv7
      · exact ⟨_, rfl, a4⟩
      rw [List.mem_singleton.mp mv7]
      exact ⟨_, rfl, by decide⟩
    obtain ⟨be, rfl, hbe⟩ := mb
    dsimp only [gName]
    have v4 : ∀ b, H9 b = none → H4 b = none := fun b e =>
      have e8 : H8 b = none := spl.free (k9.none (T9.off e) e)
      va b (k8.none (T8.off e8) e8)
    clear W8 W9 D8 G8 spl k8 k9
    have Fn : Fit (butA gi old ++ [(old, be)]) := Fi.turned (x := (old, be)) hbe
    -- due = due + _law_comes(stand, folk, old, bears)
    refine ⟨.ref qa, rfl, .ref so, rfl, .ref sd, rfl, .int old, rfl, .int be, rfl, _, so, sd, stsa, Sa, butA gi old, (old, be), rfl, W10.r, W10.dd, W10.e, Fn, by omega, fun Hl qb usb stsb Sb Rb hSb hdb Gb kb vb => ?_⟩
    obtain ⟨W11, kz11⟩ := W10.stand Rb hSb hdb kb vb
    have G11 := G10.keep kz11
    have nso : ∀ b, H4 b = none → b ≠ so ∧ b ≠ sd := fun b e => ⟨fun z => (by rw [z, W4.r.top] at e; cases e), fun z => (by rw [z, W4.dd] at e; cases e)⟩
    have D11 : GsAt Hl (fun b => H4 b = none) qa usa (goT gi old) := D10.keep (kb.weak nso)
    have E11 : GsAt Hl (fun b => H4 b = none) qb usb (comeT (butA gi old) (old, be)) := Gb.weaken fun b e => v4 b e
    have lgo := goT_len gi old
    have lco := comeT_len (butA gi old) (old, be)
    refine ⟨qa, qb, _, _, rfl, rfl, D11.top, E11.top, ?_, fun dl ndl => ?_⟩
    · rw [List.length_map, List.length_map, D11.len, E11.len]
      exact Nat.le_of_lt (ils (by omega))
    dsimp only [gName]
    have sdl := same_new (o := .lst (usa.map V.ref ++ usb.map V.ref)) ndl
    have Gd : GsAt (upd Hl dl (.lst (usa.map V.ref ++ usb.map V.ref))) (fun b => H4 b = none) dl (usa ++ usb) (turnT gi (old, be)) := (D11.same sdl).both (E11.same sdl) upd_same (v4 dl (vb dl ndl))
    have W12 := W11.same sdl
    have G12 := G11.same sdl
    revert Gd W12 G12
    generalize upd Hl dl (.lst (usa.map V.ref ++ usb.map V.ref)) = Hm
    generalize usa ++ usb = uds
    clear W11 sdl D11 E11 G11 Gb Ga Ra Rb D10 G10 W10 W6 G6
    intro Gd W12 G12
    -- made.turn(old, bears) == due
    obtain ⟨dxm, hpm⟩ := W12.i.ob
    refine ⟨.ref x, rfl, x, dxm, _, rfl, hpm, iflds_no _ _ (by decide +kernel) (by decide +kernel), .int old, rfl, .int be, rfl, _, x, d, o, ts, gi, (old, be), rfl, W12.i, Fi, oin, hbe, by omega, fun Hk q3 us3 ts3 Ik Gk kk vk => ?_⟩
    obtain ⟨W13, kz13, Gq⟩ := W12.inn Ik Gk kk vk
    refine ⟨.ref dl, rfl, dGs (turnT gi (old, be)), dGs (turnT gi (old, be)), Gq.dp, (Gd.keep (kk.weak fun b e z => dead_live e z.1.2)).dp, (Oks.gs _).shaped, (Oks.gs _).shaped, ?_⟩
    rw [(Oks.gs _).eqv]
    have hFn : Fit (ga ++ (butA gi old ++ [(old, be)])) := by
      have h1 := hF.turned (x := (old, be)) hbe
      rw [butA_app onot, List.append_assoc] at h1
      exact h1
    refine q _ _ ⟨_, _, _, _, _, _, ga, _, W13.more (by omega), G12.keep kz13, hFn, ?_⟩
    rw [List.length_append]
    show ga.length + ((butA gi old).length + 1) = k
    omega
end
end El
namespace El
open PySem PySem.Spec PyProof.Rows L2
section
variable {C : Addr} {H5 H H' : Hp} {t g x d o so sd av : Addr} {n m k : Nat} {gi : List (Int × Int)}
theorem Deeds.draw (h : Deeds C H5 t g x d o so sd av n k gi H) (kp : Kp (Off t g) H H') (D : Deck H' t g m) : Deeds C H5 t g x d o so sd av m k gi H' :=
  let ⟨Z, BB, BS, ts, sts, wa, ga, S, W, G, F, l⟩ := h
  ⟨Z, BB, BS, ts, sts, wa, ga, S, W.draw kp D, G.keep (kp.weak fun b z => W.off _ (W.z5 b z)), F, l⟩
theorem Deeds.same (h : Deeds C H5 t g x d o so sd av n k gi H) (s : Same H H') : Deeds C H5 t g x d o so sd av n k gi H' :=
  let ⟨Z, BB, BS, ts, sts, wa, ga, S, W, G, F, l⟩ := h
  ⟨Z, BB, BS, ts, sts, wa, ga, S, W.same s, G.same s, F, l⟩
theorem Deeds.more (h : Deeds C H5 t g x d o so sd av n k gi H) (e : n ≤ m) : Deeds C H5 t g x d o so sd av m k gi H :=
  let ⟨Z, BB, BS, ts, sts, wa, ga, S, W, G, F, l⟩ := h
  ⟨Z, BB, BS, ts, sts, wa, ga, S, W.more e, G, F, l⟩
theorem Deeds.deck (h : Deeds C H5 t g x d o so sd av n k gi H) : Deck H t g n :=
  let ⟨_, _, _, _, _, _, _, _, W, _⟩ := h
  W.deck
end
section
variable {P : Program} {w : World} {K : PySem.W.Frag} {mg : Str → Option Value} {base : Heap}
abbrev s_law : Stmt := topS 22
abbrev N_law : List Str := ["script", "deck", "lap", "away", "made", "stand", "folk", "turn"]
abbrev P_law : List Str := ["script"]
theorem sc_law : FnScope N_law P_law (defScope s_law) := ⟨rfl, rfl, rfl, by decide +kernel, rfl, by decide +kernel, by decide +kernel⟩
def sp_law (K : PySem.W.Frag) : Sp := fun vs H Q _ => ∃ (a : Addr) (ns : List Int), vs = [.ref a] ∧ SqL K H a (ns.map V.int) ∧ ns.length ≤ 63 ∧ ∀ H', Q (.bl true) H'
theorem ok_law {C fI : Addr} {fdI : FuncData} (A : At K mg "law" P_law s_law) (B : Bi mg) (T : InnT K mg C) (MK_Inn : Mk K C fI) (FI_Inn : FnOk P w K mg base CX0 1 fI fdI P_Inn___init__ (sp_Inn___init__ C)) (bI_Inn : Binds K fdI P_Inn___init__ [])
    (M_rooms : Mf P w K mg base 1 C "rooms" "Inn.rooms" P_Inn_rooms s_Inn_rooms (sp_Inn_rooms C))
    (D__law_deck : Df P w K mg base 1 "_law_deck" P__law_deck s__law_deck (sp__law_deck K)) (D__law_take : Df P w K mg base 1 "_law_take" P__law_take s__law_take sp__law_take) (D__law_folk : Df P w K mg base 3 "_law_folk" P__law_folk s__law_folk sp__law_folk)
    (D__law_sorted : Df P w K mg base 1 "_law_sorted" P__law_sorted s__law_sorted sp__law_sorted) (D__law_right : Df P w K mg base 4 "_law_right" P__law_right s__law_right (sp__law_right C)) (D__law_deed_right : Df P w K mg base 5 "_law_deed_right" P__law_deed_right s__law_deed_right (sp__law_deed_right C)) :
    Df P w K mg base 6 "law" P_law s_law (sp_law K) := by
  refine A.df fun f fd F => F.ok sc_law (fun vs H Q E h => ?_) (fun cdv AA outer s H vs Q E hr h => ?_)
  · obtain ⟨_, _, rfl, _⟩ := h
    rfl
  · obtain ⟨a, ns, rfl, hS, hl, q⟩ := h
    have nd := sc_law.nd
    refine ⟨_, (pss_cons (ps_set (i := 1) nd rfl (.inl rfl) (pe_df D__law_deck (hr.mono (by decide)) (by rfl) (pa_cons (pv 0) pa_nil)))
    (pss_cons (ps_for PassesOwn.never rfl (pi_range1 (by rfl) B.range (pa_cons (pe_op op_add pe_int (pe_callB (call_min2 rfl) (by rfl) B.min (by decide +kernel) (pa_cons pe_int (pa_cons (pe_callB call_len_seq (by rfl) B.len PySem.boot_len (pa_cons (pv 0) pa_nil)) pa_nil)))) pa_nil)) (pg_name (i := 2) nd rfl (.inl rfl)) (pss_cons (ps_set (i := 3) nd rfl (.inl rfl) (pe_df D__law_folk (hr.mono (by decide)) (by rfl) (pa_cons (pv 1) (pa_cons pe_int pa_nil)))) (pss_cons (ps_par3 (i := 4) (j := 5) (l := 6) (by rfl) nd rfl rfl rfl (by decide) (by decide) (by decide) rfl rfl rfl (pa_cons (pe_make0 MK_Inn FI_Inn (hr.mono (by decide)) rfl T.mgC bI_Inn .nil pass0) (pa_cons (pe_lst pa_nil) (pa_cons pe_dnewK pa_nil))) (by rfl)) (pss_one (ps_for PassesOwn.never rfl (pi_range1 (by rfl) B.range (pa_cons (pe_ix ix_list (pe_lst (pa_cons (pe_df D__law_take (hr.mono (by decide)) (by rfl) (pa_cons (pv 1) (pa_cons pe_int pa_nil))) (pa_cons pe_int pa_nil))) (pe_callTy call_int1 (by rfl) B.int_ (by decide +kernel) (pa_cons (pe_cmpR op_eq (pe_df D__law_take (hr.mono (by decide)) (by rfl) (pa_cons (pv 1) (pa_cons pe_int pa_nil))) pe_int (nomark _)) pa_nil)) (fun _ _ => rfl)) pa_nil)) (pg_name (i := 7) nd rfl (.inl rfl)) (pss_cons (ps_if (pt_not (pt_val (pe_df D__law_deed_right (hr.mono (by decide)) (by rfl) (pa_cons (pv 1) (pa_cons (pv 4) (pa_cons (pv 5) (pa_cons (pv 6) (pa_cons (pv 3) pa_nil)))))))) (pss_one (ps_ret pe_bl)) pss_nil) (pss_one (ps_if (PW.pt (pw_or (pt_not (pt_val (pe_df D__law_right (hr.mono (by decide)) (by rfl) (pa_cons (pv 1) (pa_cons (pv 4) (pa_cons (pv 6) pa_nil)))))) (pw_or1 (pt_cmpR (op_neD hr.units) (pe_mf0 M_rooms T.cl (hr.mono (by decide)) (pv 4)) (pe_df D__law_sorted (hr.mono (by decide)) (by rfl) (pa_cons (pv 5) pa_nil)) (nomark _))))) (pss_one (ps_ret pe_bl)) pss_nil))))))))
    (pss_one (ps_ret pe_bl)))), ?_⟩
    -- deck = _law_deck(script)
    refine ⟨.ref a, rfl, a, ns, rfl, hS, hl, fun H1 t g s1 nt ng T1 => ?_⟩
    -- the laps
    refine ⟨.ref a, rfl, a, _, rfl, .inl (s1.seq hS), _, _, rfl, _, _, rfl, rfl, _, rfl, ?_, ?_, ?_⟩
    · split <;> omega
    · split <;> omega
    have hlaps : ((2 : Int) + (if ((ns.map V.int).length : Int) < 3 then ((ns.map V.int).length : Int) else 3)).toNat ≤ 5 := by
      split <;> omega
    refine for_it walk_range (fun i σ H2 => ∃ y2 y3 y4 y5 y6 y7, σ = [some (.ref a), some (.ref t), y2, y3, y4, y5, y6, y7] ∧ Deck H2 t g (20000 * i)) ⟨_, _, _, _, _, _, rfl, T1⟩ (fun _ _ _ _ _ => trivial) (fun i v σ H2 H3 hi hW hY => ?_) (fun σ H2 hW => ?_)
    · obtain ⟨y2, y3, y4, y5, y6, y7, rfl, T2⟩ := hW
      obtain ⟨rfl, rfl⟩ := hY
      have hi5 : i ≤ 5 := by omega
      -- away = _law_folk(deck, 40)
      refine ⟨.ref t, rfl, t, g, 20000 * i, 40, rfl, T2, by omega, by omega, fun Hf av wa ga kf Tf Gf hF hgl _ => ?_⟩
      dsimp only [gName]
      have G0 : GsAt Hf (fun b => H3 b = none ∧ ∃ v, Hf b = some v) av wa ga := Gf.liv.weaken fun b z => ⟨z.2, z.1⟩
      -- made, stand, folk = (Inn(), [], {})
      refine fun x dx nx ndx ne => ⟨x, dx, rfl, upd_same, fun d o H6 nd0 no0 Ig kg => ⟨rfl, ?_⟩⟩
      have s0 : Same Hf (upd (upd Hf dx (.own x)) x (.ins C dx [])) := fun b u e => by
        rw [upd_ne (ne_of_none e nx), upd_ne (ne_of_none e ndx)]
        exact e
      have sg : Same Hf H6 := fun b u e => kg b u (ne_of_none e nx) (s0 b u e)
      have Jg : InnAt C H6 (fun b => Hf b = none) x d o [] [] [] := Ig.reB fun b _ hb => hb.elim (fun y => y ▸ nx) fun e => s0.free e
      refine ⟨Nat.zero_le _, fun so nso => fun sd nsd => ⟨_, _, _, rfl, ?_⟩⟩
      have s7 := same_new (o := .lst []) nso
      have s8 := same_new (o := .dK []) nsd
      have nsd6 : H6 sd = none := s7.free nsd
      have sE := s7.trans s8
      have sf := sg.trans sE
      have vf : ∀ b, Hf b = none → H3 b = none := fun b e => kf.none (Tf.off e) e
      have D0 : Deeds C H3 t g x d o so sd av (20000 * i + 600) ga.length [] (upd (upd H6 so (.lst [])) sd (.dK [])) :=
        ⟨fun b => H3 b = none ∧ ∃ v, Hf b = some v, fun b => Hf b = none ∧ ∃ v, H6 b = some v, fun b => b = so, [], [], wa, ga, [],
          ⟨by
            rw [settle_no]
            exact (Jg.reB (B' := fun b => Hf b = none ∧ ∃ v, H6 b = some v) fun b z hb => ⟨hb, z⟩).same sE, RmsAt.nil (s8 _ _ upd_same) rfl, by rw [settle_no]; rfl, upd_same,
            fun b hb => ⟨fun z => dead_live nso (z ▸ hb.2), fun z => dead_live nsd6 (z ▸ hb.2), fun z => dead_live hb.1 z.2⟩, fun b hb => vf b hb.1, fun b hb => ⟨fun z => ne_of_none upd_same nsd (hb ▸ z), fun z => dead_live (sg.free nso) (hb ▸ z.2)⟩, fun b hb => hb ▸ vf so (sg.free nso),
            fun b z => let ⟨v, e⟩ := z.2; ⟨v, sf _ _ e⟩, fun b z => z.1, fun z => dead_live (sg.free nsd6) z.2, vf sd (sg.free nsd6), kf.trans (Kp.of sf), fun b e => vf b (sf.free e), Tf.same sf, fun b e => T2.off e⟩,
          G0.same sf, by rw [List.append_nil]; exact hF, rfl⟩
      clear Jg Ig s0 kg G0 Gf s7 s8 sE sf sg nsd6
      revert D0
      generalize upd (upd H6 so (.lst [])) sd (.dK []) = H7
      intro D0
      dsimp only
      -- the turns
      refine ⟨.ref t, rfl, t, g, _, 61, rfl, D0.deck, by omega, by decide, by decide, fun H8 r8 k8 T8 a8 b8 => ⟨(by show 2 ≤ sizeLine; decide), fun pl npl => ?_⟩⟩
      have D8 := (D0.draw k8 T8).same (same_new (o := .lst [.int r8, .int 200]) npl)
      have opl : Off t g pl := T8.off npl
      refine ⟨.ref t, rfl, t, g, _, 4, rfl, D8.deck, by omega, by decide, by decide, fun H9 r9 k9 T9 a9 b9 => ?_⟩
      have D9 := D8.draw k9 T9
      obtain ⟨v, hv, mv⟩ := at_pick (xs := [V.int r8, .int 200]) (r := if decide (V.int r9 = V.int 0) then 1 else 0) (by split <;> decide) (by show _ < (2 : Int); split <;> decide)
      have mb : ∃ z : Int, v = .int z ∧ 0 ≤ z ∧ z ≤ 200 := by
        rcases List.mem_cons.mp mv with rfl | mv
        · exact ⟨_, rfl, a8, by omega⟩
        rw [List.mem_singleton.mp mv]
        exact ⟨_, rfl, by decide, by decide⟩
      obtain ⟨z, rfl, hz0, hz⟩ := mb
      refine ⟨rfl, .inr ⟨_, rfl, pl, _, _, _, rfl, rfl, SqL.of (k9 _ _ opl upd_same), hv, _, rfl, by omega, by omega, ?_⟩⟩
      refine for_it walk_range (fun k σ Hc => ∃ y7 gi, σ = [some (.ref a), some (.ref t), some (.int (0 + (i : Int))), some (.ref av), some (.ref x), some (.ref so), some (.ref sd), y7] ∧ Deeds C H3 t g x d o so sd av (20000 * i + 602 + 74 * k) ga.length gi Hc) ⟨_, _, rfl, D9⟩ (fun _ _ _ _ _ => trivial) (fun k v σ Hc Hd hk hW hY => ?_) (fun σ Hc hW => ?_)
      · obtain ⟨y7, gi, rfl, Dk⟩ := hW
        obtain ⟨rfl, rfl⟩ := hY
        have hk200 : k ≤ 200 := by omega
        dsimp only [gName]
        -- not _law_deed_right(..)
        refine ⟨.ref t, rfl, .ref x, rfl, .ref so, rfl, .ref sd, rfl, .ref av, rfl, _, t, g, x, d, o, so, sd, av, _, ga.length, gi, rfl, Dk, by omega, by omega, fun He gi' De => ⟨_, rfl, ifNo rfl ?_⟩⟩
        obtain ⟨Z, BB, BS, ts, sts, wa', ga', S, W, G, hFk, hlk⟩ := De
        have Fi : Fit gi' := ⟨by
          have h1 := hFk.nd
          rw [List.map_append] at h1
          exact (List.nodup_append.mp h1).2.1, fun z m => hFk.pos z (List.mem_append_right _ m)⟩
        have lset : (settle gi').length ≤ gi'.length := by
          have := settleL_len (byAge gi')
          rw [byAge_length] at this
          exact this
        -- not _law_right(..)
        refine ⟨.ref t, rfl, .ref x, rfl, .ref sd, rfl, t, g, x, d, o, sd, _, BB, ts, gi', rfl, W.deck, W.i, W.dd, W.off _ W.d5, fun b hb => W.off _ (W.b5 b hb), Fi, by omega, by omega, fun Hg kg' vg Tg => ⟨_, rfl, ifNo rfl ?_⟩⟩
        have W1 := W.draw kg' Tg
        have G1 := G.keep (kg'.weak fun b z => W.off _ (W.z5 b z))
        clear W G
        -- made.rooms() != _law_sorted(stand)
        obtain ⟨dx1, hp1⟩ := W1.i.ob
        have lS : S.length ≤ 1000 := by
          have := congrArg List.length W1.e
          rw [List.length_map] at this
          omega
        refine ⟨.ref x, rfl, x, dx1, _, rfl, hp1, iflds_no _ _ (by decide +kernel) (by decide +kernel), BB, x, d, o, ts, gi', _, rfl, W1.i, by omega, fun Hh rq rus sH Rh => ?_⟩
        refine ⟨.ref so, rfl, BS, so, sts, S, rfl, W1.r.same sH, lS, fun Hj sq sus sJ Rj => ?_⟩
        rw [W1.e] at Rj
        refine ⟨dRows (settle gi'), dRows (settle gi'), (Rh.same sJ).dp, Rj.dp, (Oks.rows _).shaped, (Oks.rows _).shaped, _, rfl, ?_⟩
        rw [(Oks.rows _).eqv]
        refine ifNo rfl ?_
        exact ⟨_, gi', rfl, Z, BB, BS, ts, sts, wa', ga', S, (W1.same (sH.trans sJ)).more (by omega), G1.same (sH.trans sJ), hFk, hlk⟩
      · obtain ⟨y7, gi, rfl, Dk⟩ := hW
        exact ⟨_, _, _, _, _, _, rfl, Dk.deck.more (by omega)⟩
    · obtain ⟨y2, y3, y4, y5, y6, y7, rfl, T2⟩ := hW
      exact q H2
end
end El
namespace El
open PySem PySem.Spec PyProof.Rows L2
theorem all_mk {l : PySem.W.OpenLaw} {w : World} {K : PySem.W.Frag} {h : Heap} {mg : Str → Option Value} {fa f1 f2 f3 f4 f5 f6 f7 f8 f9 f10 f11 f12 f13 f14 f15 : Addr} (X : K.In h) (G : h.Ns mainGlobals mg) (hfa : mg "law" = some (.ref fa))
    {od1 an1 od2 an2 od3 an3 od4 an4 od5 an5 od6 an6 od7 an7 od8 an8 od9 an9 od10 an10 od11 an11 od12 an12 od13 an13 od14 an14 od15 an15 : Option Addr} {sl1 sl2 sl3 sl4 sl5 sl6 sl7 sl8 sl9 sl10 sl11 sl12 sl13 sl14 sl15 : Array (Option Value)} {oc1 kV1 dc1 pm1 cd1 ct1 oc2 kV2 dc2 pm2 cd2 ct2 oc3 kV3 dc3 pm3 cd3 ct3 oc4 kV4 dc4 pm4 cd4 ct4 oc5 kV5 dc5 pm5 cd5 ct5 oc6 kV6 dc6 pm6 cd6 ct6 oc7 kV7 dc7 pm7 cd7 ct7 oc8 kV8 dc8 pm8 cd8 ct8 oc9 kV9 dc9 pm9 cd9 ct9 oc10 kV10 dc10 pm10 cd10 ct10 oc11 kV11 dc11 pm11 cd11 ct11 oc12 kV12 dc12 pm12 cd12 ct12 oc13 kV13 dc13 pm13 cd13 ct13 oc14 kV14 dc14 pm14 cd14 ct14 oc15 kV15 dc15 pm15 cd15 ct15 : Value}
    (a1 : PySem.W.nsIn K mainGlobals "check_newcomer" = some (some (.ref f1))) (l1 : K.lookup f1 = some ⟨oc1, od1, .func (PySem.W.fnOf "check_newcomer" "check_newcomer" (defArgs s_check_newcomer) (defBody s_check_newcomer) (defScope s_check_newcomer) .none kV1 dc1 pm1 an1 cd1 ct1), sl1⟩) (c1 : PySem.W.codeIn K cd1 "check_newcomer" = true) (k1 : PySem.W.keepIn K (.ref f1) = true)
    (a2 : PySem.W.nsIn K mainGlobals "eldest_upset" = some (some (.ref f2))) (l2 : K.lookup f2 = some ⟨oc2, od2, .func (PySem.W.fnOf "eldest_upset" "eldest_upset" (defArgs s_eldest_upset) (defBody s_eldest_upset) (defScope s_eldest_upset) .none kV2 dc2 pm2 an2 cd2 ct2), sl2⟩) (c2 : PySem.W.codeIn K cd2 "eldest_upset" = true) (k2 : PySem.W.keepIn K (.ref f2) = true)
    (a3 : PySem.W.nsIn K mainGlobals "_law_deck" = some (some (.ref f3))) (l3 : K.lookup f3 = some ⟨oc3, od3, .func (PySem.W.fnOf "_law_deck" "_law_deck" (defArgs s__law_deck) (defBody s__law_deck) (defScope s__law_deck) .none kV3 dc3 pm3 an3 cd3 ct3), sl3⟩) (c3 : PySem.W.codeIn K cd3 "_law_deck" = true) (k3 : PySem.W.keepIn K (.ref f3) = true)
    (a4 : PySem.W.nsIn K mainGlobals "_law_take" = some (some (.ref f4))) (l4 : K.lookup f4 = some ⟨oc4, od4, .func (PySem.W.fnOf "_law_take" "_law_take" (defArgs s__law_take) (defBody s__law_take) (defScope s__law_take) .none kV4 dc4 pm4 an4 cd4 ct4), sl4⟩) (c4 : PySem.W.codeIn K cd4 "_law_take" = true) (k4 : PySem.W.keepIn K (.ref f4) = true)
    (a5 : PySem.W.nsIn K mainGlobals "_law_old" = some (some (.ref f5))) (l5 : K.lookup f5 = some ⟨oc5, od5, .func (PySem.W.fnOf "_law_old" "_law_old" (defArgs s__law_old) (defBody s__law_old) (defScope s__law_old) .none kV5 dc5 pm5 an5 cd5 ct5), sl5⟩) (c5 : PySem.W.codeIn K cd5 "_law_old" = true) (k5 : PySem.W.keepIn K (.ref f5) = true)
    (a6 : PySem.W.nsIn K mainGlobals "_law_folk" = some (some (.ref f6))) (l6 : K.lookup f6 = some ⟨oc6, od6, .func (PySem.W.fnOf "_law_folk" "_law_folk" (defArgs s__law_folk) (defBody s__law_folk) (defScope s__law_folk) .none kV6 dc6 pm6 an6 cd6 ct6), sl6⟩) (c6 : PySem.W.codeIn K cd6 "_law_folk" = true) (k6 : PySem.W.keepIn K (.ref f6) = true)
    (a7 : PySem.W.nsIn K mainGlobals "_law_by_age" = some (some (.ref f7))) (l7 : K.lookup f7 = some ⟨oc7, od7, .func (PySem.W.fnOf "_law_by_age" "_law_by_age" (defArgs s__law_by_age) (defBody s__law_by_age) (defScope s__law_by_age) .none kV7 dc7 pm7 an7 cd7 ct7), sl7⟩) (c7 : PySem.W.codeIn K cd7 "_law_by_age" = true) (k7 : PySem.W.keepIn K (.ref f7) = true)
    (a8 : PySem.W.nsIn K mainGlobals "_law_crowded" = some (some (.ref f8))) (l8 : K.lookup f8 = some ⟨oc8, od8, .func (PySem.W.fnOf "_law_crowded" "_law_crowded" (defArgs s__law_crowded) (defBody s__law_crowded) (defScope s__law_crowded) .none kV8 dc8 pm8 an8 cd8 ct8), sl8⟩) (c8 : PySem.W.codeIn K cd8 "_law_crowded" = true) (k8 : PySem.W.keepIn K (.ref f8) = true)
    (a9 : PySem.W.nsIn K mainGlobals "_law_comes" = some (some (.ref f9))) (l9 : K.lookup f9 = some ⟨oc9, od9, .func (PySem.W.fnOf "_law_comes" "_law_comes" (defArgs s__law_comes) (defBody s__law_comes) (defScope s__law_comes) .none kV9 dc9 pm9 an9 cd9 ct9), sl9⟩) (c9 : PySem.W.codeIn K cd9 "_law_comes" = true) (k9 : PySem.W.keepIn K (.ref f9) = true)
    (a10 : PySem.W.nsIn K mainGlobals "_law_goes" = some (some (.ref f10))) (l10 : K.lookup f10 = some ⟨oc10, od10, .func (PySem.W.fnOf "_law_goes" "_law_goes" (defArgs s__law_goes) (defBody s__law_goes) (defScope s__law_goes) .none kV10 dc10 pm10 an10 cd10 ct10), sl10⟩) (c10 : PySem.W.codeIn K cd10 "_law_goes" = true) (k10 : PySem.W.keepIn K (.ref f10) = true)
    (a11 : PySem.W.nsIn K mainGlobals "_law_sorted" = some (some (.ref f11))) (l11 : K.lookup f11 = some ⟨oc11, od11, .func (PySem.W.fnOf "_law_sorted" "_law_sorted" (defArgs s__law_sorted) (defBody s__law_sorted) (defScope s__law_sorted) .none kV11 dc11 pm11 an11 cd11 ct11), sl11⟩) (c11 : PySem.W.codeIn K cd11 "_law_sorted" = true) (k11 : PySem.W.keepIn K (.ref f11) = true)
    (a12 : PySem.W.nsIn K mainGlobals "_law_same" = some (some (.ref f12))) (l12 : K.lookup f12 = some ⟨oc12, od12, .func (PySem.W.fnOf "_law_same" "_law_same" (defArgs s__law_same) (defBody s__law_same) (defScope s__law_same) .none kV12 dc12 pm12 an12 cd12 ct12), sl12⟩) (c12 : PySem.W.codeIn K cd12 "_law_same" = true) (k12 : PySem.W.keepIn K (.ref f12) = true)
    (a13 : PySem.W.nsIn K mainGlobals "_law_right" = some (some (.ref f13))) (l13 : K.lookup f13 = some ⟨oc13, od13, .func (PySem.W.fnOf "_law_right" "_law_right" (defArgs s__law_right) (defBody s__law_right) (defScope s__law_right) .none kV13 dc13 pm13 an13 cd13 ct13), sl13⟩) (c13 : PySem.W.codeIn K cd13 "_law_right" = true) (k13 : PySem.W.keepIn K (.ref f13) = true)
    (a14 : PySem.W.nsIn K mainGlobals "_law_deed_right" = some (some (.ref f14))) (l14 : K.lookup f14 = some ⟨oc14, od14, .func (PySem.W.fnOf "_law_deed_right" "_law_deed_right" (defArgs s__law_deed_right) (defBody s__law_deed_right) (defScope s__law_deed_right) .none kV14 dc14 pm14 an14 cd14 ct14), sl14⟩) (c14 : PySem.W.codeIn K cd14 "_law_deed_right" = true) (k14 : PySem.W.keepIn K (.ref f14) = true)
    (a15 : PySem.W.nsIn K mainGlobals "law" = some (some (.ref f15))) (l15 : K.lookup f15 = some ⟨oc15, od15, .func (PySem.W.fnOf "law" "law" (defArgs s_law) (defBody s_law) (defScope s_law) .none kV15 dc15 pm15 an15 cd15 ct15), sl15⟩) (c15 : PySem.W.codeIn K cd15 "law" = true) (k15 : PySem.W.keepIn K (.ref f15) = true)
    {C : Addr} {qf0 : Addr} {qod0 qan0 : Option Addr} {qsl0 : Array (Option Value)} {qoc0 qkV0 qdc0 qpm0 qcd0 qct0 : Value} {qf1 : Addr} {qod1 qan1 : Option Addr} {qsl1 : Array (Option Value)} {qoc1 qkV1 qdc1 qpm1 qcd1 qct1 : Value} {qf2 : Addr} {qod2 qan2 : Option Addr} {qsl2 : Array (Option Value)} {qoc2 qkV2 qdc2 qpm2 qcd2 qct2 : Value} {qf3 : Addr} {qod3 qan3 : Option Addr} {qsl3 : Array (Option Value)} {qoc3 qkV3 qdc3 qpm3 qcd3 qct3 : Value} {qf4 : Addr} {qod4 qan4 : Option Addr} {qsl4 : Array (Option Value)} {qoc4 qkV4 qdc4 qpm4 qcd4 qct4 : Value} {qf5 : Addr} {qod5 qan5 : Option Addr} {qsl5 : Array (Option Value)} {qoc5 qkV5 qdc5 qpm5 qcd5 qct5 : Value} {qf6 : Addr} {qod6 qan6 : Option Addr} {qsl6 : Array (Option Value)} {qoc6 qkV6 qdc6 qpm6 qcd6 qct6 : Value} {qf7 : Addr} {qod7 qan7 : Option Addr} {qsl7 : Array (Option Value)} {qoc7 qkV7 qdc7 qpm7 qcd7 qct7 : Value} {qf8 : Addr} {qod8 qan8 : Option Addr} {qsl8 : Array (Option Value)} {qoc8 qkV8 qdc8 qpm8 qcd8 qct8 : Value} {qf9 : Addr} {qod9 qan9 : Option Addr} {qsl9 : Array (Option Value)} {qoc9 qkV9 qdc9 qpm9 qcd9 qct9 : Value} {qf10 : Addr} {qod10 qan10 : Option Addr} {qsl10 : Array (Option Value)} {qoc10 qkV10 qdc10 qpm10 qcd10 qct10 : Value} {qf11 : Addr} {qod11 qan11 : Option Addr} {qsl11 : Array (Option Value)} {qoc11 qkV11 qdc11 qpm11 qcd11 qct11 : Value} {qf12 : Addr} {qod12 qan12 : Option Addr} {qsl12 : Array (Option Value)} {qoc12 qkV12 qdc12 qpm12 qcd12 qct12 : Value}
    (yC : PySem.W.nsIn K mainGlobals "Inn" = some (some (.ref C)))
    (ypg : PySem.W.plainGet K C Str.empty = true)
    (yhd : PySem.W.hasDictIn K C = true)
    (ypo : PySem.W.plainOver K C = true)
    (ysa : PySem.W.findIn K (.ref C) "__setattr__" = some (some (.builtin "object.__setattr__")))
    (ymk : PySem.W.makesIn K C = true)
    (ykc : PySem.W.keepIn K (.ref C) = true)
    (yn0 : PySem.W.findIn K (.ref C) "_patience_of" = some none)
    (yn1 : PySem.W.findIn K (.ref C) "_rooms" = some none)
    (qa0 : PySem.W.findIn K (.ref C) "__init__" = some (some (.ref qf0)))
    (qi0 : PySem.W.isFn K (.ref qf0) = true)
    (ql0 : K.lookup qf0 = some ⟨qoc0, qod0, .func (PySem.W.fnOf "__init__" "Inn.__init__" (defArgs s_Inn___init__) (defBody s_Inn___init__) (defScope s_Inn___init__) .none qkV0 qdc0 qpm0 qan0 qcd0 qct0), qsl0⟩)
    (qc0 : PySem.W.codeIn K qcd0 "Inn.__init__" = true)
    (qk0 : PySem.W.keepIn K (.ref qf0) = true)
    (qa1 : PySem.W.findIn K (.ref C) "_enter" = some (some (.ref qf1)))
    (qi1 : PySem.W.isFn K (.ref qf1) = true)
    (ql1 : K.lookup qf1 = some ⟨qoc1, qod1, .func (PySem.W.fnOf "_enter" "Inn._enter" (defArgs s_Inn__enter) (defBody s_Inn__enter) (defScope s_Inn__enter) .none qkV1 qdc1 qpm1 qan1 qcd1 qct1), qsl1⟩)
    (qc1 : PySem.W.codeIn K qcd1 "Inn._enter" = true)
    (qk1 : PySem.W.keepIn K (.ref qf1) = true)
    (qa2 : PySem.W.findIn K (.ref C) "come" = some (some (.ref qf2)))
    (qi2 : PySem.W.isFn K (.ref qf2) = true)
    (ql2 : K.lookup qf2 = some ⟨qoc2, qod2, .func (PySem.W.fnOf "come" "Inn.come" (defArgs s_Inn_come) (defBody s_Inn_come) (defScope s_Inn_come) .none qkV2 qdc2 qpm2 qan2 qcd2 qct2), qsl2⟩)
    (qc2 : PySem.W.codeIn K qcd2 "Inn.come" = true)
    (qk2 : PySem.W.keepIn K (.ref qf2) = true)
    (qa3 : PySem.W.findIn K (.ref C) "rooms" = some (some (.ref qf3)))
    (qi3 : PySem.W.isFn K (.ref qf3) = true)
    (ql3 : K.lookup qf3 = some ⟨qoc3, qod3, .func (PySem.W.fnOf "rooms" "Inn.rooms" (defArgs s_Inn_rooms) (defBody s_Inn_rooms) (defScope s_Inn_rooms) .none qkV3 qdc3 qpm3 qan3 qcd3 qct3), qsl3⟩)
    (qc3 : PySem.W.codeIn K qcd3 "Inn.rooms" = true)
    (qk3 : PySem.W.keepIn K (.ref qf3) = true)
    (qa4 : PySem.W.findIn K (.ref C) "_check_there" = some (some (.ref qf4)))
    (qi4 : PySem.W.isFn K (.ref qf4) = true)
    (ql4 : K.lookup qf4 = some ⟨qoc4, qod4, .func (PySem.W.fnOf "_check_there" "Inn._check_there" (defArgs s_Inn__check_there) (defBody s_Inn__check_there) (defScope s_Inn__check_there) .none qkV4 qdc4 qpm4 qan4 qcd4 qct4), qsl4⟩)
    (qc4 : PySem.W.codeIn K qcd4 "Inn._check_there" = true)
    (qk4 : PySem.W.keepIn K (.ref qf4) = true)
    (qa5 : PySem.W.findIn K (.ref C) "where" = some (some (.ref qf5)))
    (qi5 : PySem.W.isFn K (.ref qf5) = true)
    (ql5 : K.lookup qf5 = some ⟨qoc5, qod5, .func (PySem.W.fnOf "where" "Inn.where" (defArgs s_Inn_where) (defBody s_Inn_where) (defScope s_Inn_where) .none qkV5 qdc5 qpm5 qan5 qcd5 qct5), qsl5⟩)
    (qc5 : PySem.W.codeIn K qcd5 "Inn.where" = true)
    (qk5 : PySem.W.keepIn K (.ref qf5) = true)
    (qa6 : PySem.W.findIn K (.ref C) "_bears" = some (some (.ref qf6)))
    (qi6 : PySem.W.isFn K (.ref qf6) = true)
    (ql6 : K.lookup qf6 = some ⟨qoc6, qod6, .func (PySem.W.fnOf "_bears" "Inn._bears" (defArgs s_Inn__bears) (defBody s_Inn__bears) (defScope s_Inn__bears) .none qkV6 qdc6 qpm6 qan6 qcd6 qct6), qsl6⟩)
    (qc6 : PySem.W.codeIn K qcd6 "Inn._bears" = true)
    (qk6 : PySem.W.keepIn K (.ref qf6) = true)
    (qa7 : PySem.W.findIn K (.ref C) "_eldest_back" = some (some (.ref qf7)))
    (qi7 : PySem.W.isFn K (.ref qf7) = true)
    (ql7 : K.lookup qf7 = some ⟨qoc7, qod7, .func (PySem.W.fnOf "_eldest_back" "Inn._eldest_back" (defArgs s_Inn__eldest_back) (defBody s_Inn__eldest_back) (defScope s_Inn__eldest_back) .none qkV7 qdc7 qpm7 qan7 qcd7 qct7), qsl7⟩)
    (qc7 : PySem.W.codeIn K qcd7 "Inn._eldest_back" = true)
    (qk7 : PySem.W.keepIn K (.ref qf7) = true)
    (qa8 : PySem.W.findIn K (.ref C) "go" = some (some (.ref qf8)))
    (qi8 : PySem.W.isFn K (.ref qf8) = true)
    (ql8 : K.lookup qf8 = some ⟨qoc8, qod8, .func (PySem.W.fnOf "go" "Inn.go" (defArgs s_Inn_go) (defBody s_Inn_go) (defScope s_Inn_go) .none qkV8 qdc8 qpm8 qan8 qcd8 qct8), qsl8⟩)
    (qc8 : PySem.W.codeIn K qcd8 "Inn.go" = true)
    (qk8 : PySem.W.keepIn K (.ref qf8) = true)
    (qa9 : PySem.W.findIn K (.ref C) "turn" = some (some (.ref qf9)))
    (qi9 : PySem.W.isFn K (.ref qf9) = true)
    (ql9 : K.lookup qf9 = some ⟨qoc9, qod9, .func (PySem.W.fnOf "turn" "Inn.turn" (defArgs s_Inn_turn) (defBody s_Inn_turn) (defScope s_Inn_turn) .none qkV9 qdc9 qpm9 qan9 qcd9 qct9), qsl9⟩)
    (qc9 : PySem.W.codeIn K qcd9 "Inn.turn" = true)
    (qk9 : PySem.W.keepIn K (.ref qf9) = true)
    (qa10 : PySem.W.findIn K (.ref C) "guests" = some (some (.ref qf10)))
    (qi10 : PySem.W.isFn K (.ref qf10) = true)
    (ql10 : K.lookup qf10 = some ⟨qoc10, qod10, .func (PySem.W.fnOf "guests" "Inn.guests" (defArgs s_Inn_guests) (defBody s_Inn_guests) (defScope s_Inn_guests) .none qkV10 qdc10 qpm10 qan10 qcd10 qct10), qsl10⟩)
    (qc10 : PySem.W.codeIn K qcd10 "Inn.guests" = true)
    (qk10 : PySem.W.keepIn K (.ref qf10) = true)
    (qa11 : PySem.W.findIn K (.ref C) "__len__" = some (some (.ref qf11)))
    (qi11 : PySem.W.isFn K (.ref qf11) = true)
    (ql11 : K.lookup qf11 = some ⟨qoc11, qod11, .func (PySem.W.fnOf "__len__" "Inn.__len__" (defArgs s_Inn___len__) (defBody s_Inn___len__) (defScope s_Inn___len__) .none qkV11 qdc11 qpm11 qan11 qcd11 qct11), qsl11⟩)
    (qc11 : PySem.W.codeIn K qcd11 "Inn.__len__" = true)
    (qk11 : PySem.W.keepIn K (.ref qf11) = true)
    (qa12 : PySem.W.findIn K (.ref C) "__eq__" = some (some (.ref qf12)))
    (qi12 : PySem.W.isFn K (.ref qf12) = true)
    (ql12 : K.lookup qf12 = some ⟨qoc12, qod12, .func (PySem.W.fnOf "__eq__" "Inn.__eq__" (defArgs s_Inn___eq__) (defBody s_Inn___eq__) (defScope s_Inn___eq__) .none qkV12 qdc12 qpm12 qan12 qcd12 qct12), qsl12⟩)
    (qc12 : PySem.W.codeIn K qcd12 "Inn.__eq__" = true)
    (qk12 : PySem.W.keepIn K (.ref qf12) = true)
    (ja : PySem.W.findIn K (.ref C) "__class__" = some (some (.builtin "object.__class__")))
    (jn2 : PySem.W.specialIn K (.builtin "object.__class__") "__get__" = some (some (.builtin "getset_descriptor.__get__")))
    (jt2 : PySem.W.takesIn K (.builtin "object.__class__") = some true)
    (jm : PySem.W.mroIn K C (.type "object") = some true)
    (z1 : PySem.W.nsIn K mainGlobals "len" = some none) (z2 : PySem.W.nsIn K mainGlobals "range" = some none) (z3 : PySem.W.nsIn K mainGlobals "enumerate" = some none) (z4 : PySem.W.nsIn K mainGlobals "sorted" = some none) (z5 : PySem.W.nsIn K mainGlobals "sum" = some none) (z6 : PySem.W.nsIn K mainGlobals "min" = some none) (z7 : PySem.W.nsIn K mainGlobals "max" = some none) (z8 : PySem.W.nsIn K mainGlobals "isinstance" = some none) (z9 : PySem.W.nsIn K mainGlobals "zip" = some none) (z10 : PySem.W.nsIn K mainGlobals "list" = some none) (z11 : PySem.W.nsIn K mainGlobals "tuple" = some none) (z12 : PySem.W.nsIn K mainGlobals "int" = some none) (z13 : PySem.W.nsIn K mainGlobals "bool" = some none) (z14 : PySem.W.nsIn K mainGlobals "str" = some none) (z15 : PySem.W.nsIn K mainGlobals "abs" = some none) (z16 : PySem.W.nsIn K mainGlobals "repr" = some none) (z17 : PySem.W.nsIn K mainGlobals "dict" = some none) (z18 : PySem.W.nsIn K mainGlobals "any" = some none) (z19 : PySem.W.nsIn K mainGlobals "all" = some none) (z20 : PySem.W.nsIn K mainGlobals "set" = some none) (z21 : PySem.W.nsIn K mainGlobals "reversed" = some none) (z22 : PySem.W.nsIn K mainGlobals "ValueError" = some none) (z23 : PySem.W.nsIn K mainGlobals "divmod" = some none) :
    ∃ fd : FuncData, (∀ (s : Shared) (v : Value), BindsTo s fd ⟨[v], []⟩ [("script", v)]) ∧ ∀ base : Heap, K.In base → base.Ns mainGlobals mg → FnOk l.prog w K mg base CX0 6 fa fd ["script"] (sp_law K) := by
  obtain rfl : f15 = fa := by
    have e := (PySem.W.mg_of X G a15).symm.trans hfa
    injection e with e
    injection e
  have B : Bi mg := ⟨PySem.W.mg_none_of X G z1, PySem.W.mg_none_of X G z2, PySem.W.mg_none_of X G z3, PySem.W.mg_none_of X G z4, PySem.W.mg_none_of X G z5, PySem.W.mg_none_of X G z6, PySem.W.mg_none_of X G z7, PySem.W.mg_none_of X G z8, PySem.W.mg_none_of X G z9, PySem.W.mg_none_of X G z10, PySem.W.mg_none_of X G z11, PySem.W.mg_none_of X G z12, PySem.W.mg_none_of X G z13, PySem.W.mg_none_of X G z14, PySem.W.mg_none_of X G z15, PySem.W.mg_none_of X G z16, PySem.W.mg_none_of X G z17, PySem.W.mg_none_of X G z18, PySem.W.mg_none_of X G z19, PySem.W.mg_none_of X G z20, PySem.W.mg_none_of X G z21, PySem.W.mg_none_of X G z22, PySem.W.mg_none_of X G z23⟩
  have A1 : At K mg "check_newcomer" P_check_newcomer s_check_newcomer := .mk' X G a1 l1 c1 k1 fun _ _ _ _ _ _ us hl => match us, hl with | [_, _, _], _ => rfl
  have A2 : At K mg "eldest_upset" P_eldest_upset s_eldest_upset := .mk' X G a2 l2 c2 k2 fun _ _ _ _ _ _ us hl => match us, hl with | [_, _], _ => rfl
  have A3 : At K mg "_law_deck" P__law_deck s__law_deck := .mk' X G a3 l3 c3 k3 fun _ _ _ _ _ _ us hl => match us, hl with | [_], _ => rfl
  have A4 : At K mg "_law_take" P__law_take s__law_take := .mk' X G a4 l4 c4 k4 fun _ _ _ _ _ _ us hl => match us, hl with | [_, _], _ => rfl
  have A5 : At K mg "_law_old" P__law_old s__law_old := .mk' X G a5 l5 c5 k5 fun _ _ _ _ _ _ us hl => match us, hl with | [_, _], _ => rfl
  have A6 : At K mg "_law_folk" P__law_folk s__law_folk := .mk' X G a6 l6 c6 k6 fun _ _ _ _ _ _ us hl => match us, hl with | [_, _], _ => rfl
  have A7 : At K mg "_law_by_age" P__law_by_age s__law_by_age := .mk' X G a7 l7 c7 k7 fun _ _ _ _ _ _ us hl => match us, hl with | [_], _ => rfl
  have A8 : At K mg "_law_crowded" P__law_crowded s__law_crowded := .mk' X G a8 l8 c8 k8 fun _ _ _ _ _ _ us hl => match us, hl with | [_, _], _ => rfl
  have A9 : At K mg "_law_comes" P__law_comes s__law_comes := .mk' X G a9 l9 c9 k9 fun _ _ _ _ _ _ us hl => match us, hl with | [_, _, _, _], _ => rfl
  have A10 : At K mg "_law_goes" P__law_goes s__law_goes := .mk' X G a10 l10 c10 k10 fun _ _ _ _ _ _ us hl => match us, hl with | [_, _, _], _ => rfl
  have A11 : At K mg "_law_sorted" P__law_sorted s__law_sorted := .mk' X G a11 l11 c11 k11 fun _ _ _ _ _ _ us hl => match us, hl with | [_], _ => rfl
  have A12 : At K mg "_law_same" P__law_same s__law_same := .mk' X G a12 l12 c12 k12 fun _ _ _ _ _ _ us hl => match us, hl with | [_, _], _ => rfl
  have A13 : At K mg "_law_right" P__law_right s__law_right := .mk' X G a13 l13 c13 k13 fun _ _ _ _ _ _ us hl => match us, hl with | [_, _, _], _ => rfl
  have A14 : At K mg "_law_deed_right" P__law_deed_right s__law_deed_right := .mk' X G a14 l14 c14 k14 fun _ _ _ _ _ _ us hl => match us, hl with | [_, _, _, _, _], _ => rfl
  have A15 : At K mg "law" P_law s_law := .mk' X G a15 l15 c15 k15 fun _ _ _ _ _ _ us hl => match us, hl with | [_], _ => rfl
  refine ⟨PySem.W.fnOf "law" "law" (defArgs s_law) (defBody s_law) (defScope s_law) .none kV15 dc15 pm15 an15 cd15 ct15, fun s v => .of_eq rfl, fun base _ _ => ?_⟩
  have D_check_newcomer := ok_check_newcomer (P := l.prog) (w := w) (base := base) A1 
  have D_eldest_upset := ok_eldest_upset (P := l.prog) (w := w) (base := base) A2 B
  have T : InnT K mg C := ⟨⟨ypg, yhd, ypo, ysa⟩, yn0, yn1, PySem.W.mg_of X G yC⟩
  have J : InsT K C := ⟨ja, jn2, jt2, jm⟩
  have QF0 := fun_mk (st := s_Inn___init__) ql0 qc0 qk0
  have MK_Inn : Mk K C qf0 := ⟨ymk, qa0, qi0, ykc⟩
  have bI_Inn : Binds K _ P_Inn___init__ [] := QF0.binds (fun _ _ _ _ _ _ us hl => match us, hl with | [_], _ => rfl)
  have FI_Inn := ok_Inn___init__ (P := l.prog) (w := w) (mg := mg) (base := base) QF0 T
  have QF1 := fun_mk (st := s_Inn__enter) ql1 qc1 qk1
  have QA1 : Ma K C "_enter" "Inn._enter" P_Inn__enter s_Inn__enter := ⟨qf1, _, QF1, ⟨qa1, qi1, qk1⟩, QF1.binds (fun _ _ _ _ _ _ us hl => match us, hl with | [_, _, _], _ => rfl)⟩
  have M__enter := ok_Inn__enter (P := l.prog) (w := w) (mg := mg) (base := base) QA1 B T
  have QF2 := fun_mk (st := s_Inn_come) ql2 qc2 qk2
  have QA2 : Ma K C "come" "Inn.come" P_Inn_come s_Inn_come := ⟨qf2, _, QF2, ⟨qa2, qi2, qk2⟩, QF2.binds (fun _ _ _ _ _ _ us hl => match us, hl with | [_, _, _], _ => rfl)⟩
  have M_come := ok_Inn_come (P := l.prog) (w := w) (mg := mg) (base := base) QA2 B T D_check_newcomer D_eldest_upset M__enter
  have QF3 := fun_mk (st := s_Inn_rooms) ql3 qc3 qk3
  have QA3 : Ma K C "rooms" "Inn.rooms" P_Inn_rooms s_Inn_rooms := ⟨qf3, _, QF3, ⟨qa3, qi3, qk3⟩, QF3.binds (fun _ _ _ _ _ _ us hl => match us, hl with | [_], _ => rfl)⟩
  have M_rooms := ok_Inn_rooms (P := l.prog) (w := w) (mg := mg) (base := base) QA3 B T
  have QF4 := fun_mk (st := s_Inn__check_there) ql4 qc4 qk4
  have QA4 : Ma K C "_check_there" "Inn._check_there" P_Inn__check_there s_Inn__check_there := ⟨qf4, _, QF4, ⟨qa4, qi4, qk4⟩, QF4.binds (fun _ _ _ _ _ _ us hl => match us, hl with | [_, _], _ => rfl)⟩
  have M__check_there := ok_Inn__check_there (P := l.prog) (w := w) (mg := mg) (base := base) QA4 T
  have QF5 := fun_mk (st := s_Inn_where) ql5 qc5 qk5
  have QA5 : Ma K C "where" "Inn.where" P_Inn_where s_Inn_where := ⟨qf5, _, QF5, ⟨qa5, qi5, qk5⟩, QF5.binds (fun _ _ _ _ _ _ us hl => match us, hl with | [_, _], _ => rfl)⟩
  have M_where := ok_Inn_where (P := l.prog) (w := w) (mg := mg) (base := base) QA5 B T M__check_there
  have QF6 := fun_mk (st := s_Inn__bears) ql6 qc6 qk6
  have QA6 : Ma K C "_bears" "Inn._bears" P_Inn__bears s_Inn__bears := ⟨qf6, _, QF6, ⟨qa6, qi6, qk6⟩, QF6.binds (fun _ _ _ _ _ _ us hl => match us, hl with | [_, _, _], _ => rfl)⟩
  have M__bears := ok_Inn__bears (P := l.prog) (w := w) (mg := mg) (base := base) QA6 B T
  have QF7 := fun_mk (st := s_Inn__eldest_back) ql7 qc7 qk7
  have QA7 : Ma K C "_eldest_back" "Inn._eldest_back" P_Inn__eldest_back s_Inn__eldest_back := ⟨qf7, _, QF7, ⟨qa7, qi7, qk7⟩, QF7.binds (fun _ _ _ _ _ _ us hl => match us, hl with | [_, _], _ => rfl)⟩
  have M__eldest_back := ok_Inn__eldest_back (P := l.prog) (w := w) (mg := mg) (base := base) QA7 B T M__bears
  have QF8 := fun_mk (st := s_Inn_go) ql8 qc8 qk8
  have QA8 : Ma K C "go" "Inn.go" P_Inn_go s_Inn_go := ⟨qf8, _, QF8, ⟨qa8, qi8, qk8⟩, QF8.binds (fun _ _ _ _ _ _ us hl => match us, hl with | [_, _], _ => rfl)⟩
  have M_go := ok_Inn_go (P := l.prog) (w := w) (mg := mg) (base := base) QA8 B T M_where M__eldest_back M__enter
  have QF9 := fun_mk (st := s_Inn_turn) ql9 qc9 qk9
  have QA9 : Ma K C "turn" "Inn.turn" P_Inn_turn s_Inn_turn := ⟨qf9, _, QF9, ⟨qa9, qi9, qk9⟩, QF9.binds (fun _ _ _ _ _ _ us hl => match us, hl with | [_, _, _], _ => rfl)⟩
  have M_turn := ok_Inn_turn (P := l.prog) (w := w) (mg := mg) (base := base) QA9 B T M__check_there M_go M_come
  have QF10 := fun_mk (st := s_Inn_guests) ql10 qc10 qk10
  have QA10 : Ma K C "guests" "Inn.guests" P_Inn_guests s_Inn_guests := ⟨qf10, _, QF10, ⟨qa10, qi10, qk10⟩, QF10.binds (fun _ _ _ _ _ _ us hl => match us, hl with | [_], _ => rfl)⟩
  have M_guests := ok_Inn_guests (P := l.prog) (w := w) (mg := mg) (base := base) QA10 B T
  have QF11 := fun_mk (st := s_Inn___len__) ql11 qc11 qk11
  have QA11 : Ma K C "__len__" "Inn.__len__" P_Inn___len__ s_Inn___len__ := ⟨qf11, _, QF11, ⟨qa11, qi11, qk11⟩, QF11.binds (fun _ _ _ _ _ _ us hl => match us, hl with | [_], _ => rfl)⟩
  have M___len__ := ok_Inn___len__ (P := l.prog) (w := w) (mg := mg) (base := base) QA11 B T
  have QF12 := fun_mk (st := s_Inn___eq__) ql12 qc12 qk12
  have QA12 : Ma K C "__eq__" "Inn.__eq__" P_Inn___eq__ s_Inn___eq__ := ⟨qf12, _, QF12, ⟨qa12, qi12, qk12⟩, QF12.binds (fun _ _ _ _ _ _ us hl => match us, hl with | [_, _], _ => rfl)⟩
  have M___eq__ := ok_Inn___eq__ (P := l.prog) (w := w) (mg := mg) (base := base) QA12 B T J
  have D__law_deck := ok__law_deck (P := l.prog) (w := w) (base := base) A3 B
  have D__law_take := ok__law_take (P := l.prog) (w := w) (base := base) A4 B
  have D__law_old := ok__law_old (P := l.prog) (w := w) (base := base) A5 B D__law_take
  have D__law_folk := ok__law_folk (P := l.prog) (w := w) (base := base) A6 B D__law_take D__law_old
  have D__law_by_age := ok__law_by_age (P := l.prog) (w := w) (base := base) A7 B
  have D__law_crowded := ok__law_crowded (P := l.prog) (w := w) (base := base) A8 B
  have D__law_comes := ok__law_comes (P := l.prog) (w := w) (base := base) A9 B D__law_crowded
  have D__law_goes := ok__law_goes (P := l.prog) (w := w) (base := base) A10 B
  have D__law_sorted := ok__law_sorted (P := l.prog) (w := w) (base := base) A11 B
  have D__law_same := ok__law_same (P := l.prog) (w := w) (base := base) A12 B 2
  have D__law_right := ok__law_right (P := l.prog) (w := w) (base := base) A13 B T MK_Inn FI_Inn bI_Inn M_come M_rooms M_guests M_where M___len__ M___eq__ D__law_take D__law_by_age D__law_same
  have D__law_deed_right := ok__law_deed_right (P := l.prog) (w := w) (base := base) A14 B T M_come M_go M_turn D__law_take D__law_goes D__law_comes
  have D_law := ok_law (P := l.prog) (w := w) (base := base) A15 B T MK_Inn FI_Inn bI_Inn M_rooms D__law_deck D__law_take D__law_folk D__law_sorted D__law_right D__law_deed_right
  exact D_law.at hfa l15
end El
open PySem PySem.W PyProof.Rows
set_option maxRecDepth 100000 in
set_option maxHeartbeats 0 in
theorem PySem.Challenge.cw_elderinn_k12_whole_histories_by_age_holds : PySem.Challenge.rw_elderinn_k12_whole_histories_by_age.Holds := by
  w_on; o_law; k_head; (case hw => w_witness2)
  k_fill
  refine L2.walk_of (l := PySem.Challenge.rw_elderinn_k12_whole_histories_by_age) (n := 63) (k := 6) (x := "script") (CX := fun _ => L2.CX0) (sp := fun w => El.sp_law _) rfl (by decide) rfl ⟨rfl, by decide, by decide⟩ (fun w h Y => PySem.W.kIn_of Y) ?F (fun _ _ a ns hl _ hS => ⟨a, ns, rfl, hS, hl, fun _ => rfl⟩) (fun _ _ _ _ _ h => h)
  case F =>
    intro w mg fa h KX G hmg
    refine' El.all_mk KX G hmg ?a1 ?l1 ?c1 ?k1 ?a2 ?l2 ?c2 ?k2 ?a3 ?l3 ?c3 ?k3 ?a4 ?l4 ?c4 ?k4 ?a5 ?l5 ?c5 ?k5 ?a6 ?l6 ?c6 ?k6 ?a7 ?l7 ?c7 ?k7 ?a8 ?l8 ?c8 ?k8 ?a9 ?l9 ?c9 ?k9 ?a10 ?l10 ?c10 ?k10 ?a11 ?l11 ?c11 ?k11 ?a12 ?l12 ?c12 ?k12 ?a13 ?l13 ?c13 ?k13 ?a14 ?l14 ?c14 ?k14 ?a15 ?l15 ?c15 ?k15 ?yC ?ypg ?yhd ?ypo ?ysa ?ymk ?ykc ?yn0 ?yn1 ?qa0 ?qi0 ?ql0 ?qc0 ?qk0 ?qa1 ?qi1 ?ql1 ?qc1 ?qk1 ?qa2 ?qi2 ?ql2 ?qc2 ?qk2 ?qa3 ?qi3 ?ql3 ?qc3 ?qk3 ?qa4 ?qi4 ?ql4 ?qc4 ?qk4 ?qa5 ?qi5 ?ql5 ?qc5 ?qk5 ?qa6 ?qi6 ?ql6 ?qc6 ?qk6 ?qa7 ?qi7 ?ql7 ?qc7 ?qk7 ?qa8 ?qi8 ?ql8 ?qc8 ?qk8 ?qa9 ?qi9 ?ql9 ?qc9 ?qk9 ?qa10 ?qi10 ?ql10 ?qc10 ?qk10 ?qa11 ?qi11 ?ql11 ?qc11 ?qk11 ?qa12 ?qi12 ?ql12 ?qc12 ?qk12 ?ja ?jn2 ?jt2 ?jm ?z1 ?z2 ?z3 ?z4 ?z5 ?z6 ?z7 ?z8 ?z9 ?z10 ?z11 ?z12 ?z13 ?z14 ?z15 ?z16 ?z17 ?z18 ?z19 ?z20 ?z21 ?z22 ?z23
    (case a1 => k_is)
    (case l1 => k_is)
    (case c1 => k_is)
    (case k1 => k_is)
    (case a2 => k_is)
    (case l2 => k_is)
    (case c2 => k_is)
    (case k2 => k_is)
    (case a3 => k_is)
    (case l3 => k_is)
    (case c3 => k_is)
    (case k3 => k_is)
    (case a4 => k_is)
    (case l4 => k_is)
    (case c4 => k_is)
    (case k4 => k_is)
    (case a5 => k_is)
    (case l5 => k_is)
    (case c5 => k_is)
    (case k5 => k_is)
    (case a6 => k_is)
    (case l6 => k_is)
    (case c6 => k_is)
    (case k6 => k_is)
    (case a7 => k_is)
    (case l7 => k_is)
    (case c7 => k_is)
    (case k7 => k_is)
    (case a8 => k_is)
    (case l8 => k_is)
    (case c8 => k_is)
    (case k8 => k_is)
    (case a9 => k_is)
    (case l9 => k_is)
    (case c9 => k_is)
    (case k9 => k_is)
    (case a10 => k_is)
    (case l10 => k_is)
    (case c10 => k_is)
    (case k10 => k_is)
    (case a11 => k_is)
    (case l11 => k_is)
    (case c11 => k_is)
    (case k11 => k_is)
    (case a12 => k_is)
    (case l12 => k_is)
    (case c12 => k_is)
    (case k12 => k_is)
    (case a13 => k_is)
    (case l13 => k_is)
    (case c13 => k_is)
    (case k13 => k_is)
    (case a14 => k_is)
    (case l14 => k_is)
    (case c14 => k_is)
    (case k14 => k_is)
    (case a15 => k_is)
    (case l15 => k_is)
    (case c15 => k_is)
    (case k15 => k_is)
    (case yC => k_is)
    (case ypg => k_is)
    (case yhd => k_is)
    (case ypo => k_is)
    (case ysa => k_is)
    (case ymk => k_is)
    (case ykc => k_is)
    (case yn0 => k_is)
    (case yn1 => k_is)
    (case qa0 => k_is)
    (case qi0 => k_is)
    (case ql0 => k_is)
    (case qc0 => k_is)
    (case qk0 => k_is)
    (case qa1 => k_is)
    (case qi1 => k_is)
    (case ql1 => k_is)
    (case qc1 => k_is)
    (case qk1 => k_is)
    (case qa2 => k_is)
    (case qi2 => k_is)
    (case ql2 => k_is)
    (case qc2 => k_is)
    (case qk2 => k_is)
    (case qa3 => k_is)
    (case qi3 => k_is)
    (case ql3 => k_is)
    (case qc3 => k_is)
    (case qk3 => k_is)
    (case qa4 => k_is)
    (case qi4 => k_is)
    (case ql4 => k_is)
    (case qc4 => k_is)
    (case qk4 => k_is)
    (case qa5 => k_is)
    (case qi5 => k_is)
    (case ql5 => k_is)
    (case qc5 => k_is)
    (case qk5 => k_is)
    (case qa6 => k_is)
    (case qi6 => k_is)
    (case ql6 => k_is)
    (case qc6 => k_is)
    (case qk6 => k_is)
    (case qa7 => k_is)
    (case qi7 => k_is)
    (case ql7 => k_is)
    (case qc7 => k_is)
    (case qk7 => k_is)
    (case qa8 => k_is)
    (case qi8 => k_is)
    (case ql8 => k_is)
    (case qc8 => k_is)
    (case qk8 => k_is)
    (case qa9 => k_is)
    (case qi9 => k_is)
    (case ql9 => k_is)
    (case qc9 => k_is)
    (case qk9 => k_is)
    (case qa10 => k_is)
    (case qi10 => k_is)
    (case ql10 => k_is)
    (case qc10 => k_is)
    (case qk10 => k_is)
    (case qa11 => k_is)
    (case qi11 => k_is)
    (case ql11 => k_is)
    (case qc11 => k_is)
    (case qk11 => k_is)
    (case qa12 => k_is)
    (case qi12 => k_is)
    (case ql12 => k_is)
    (case qc12 => k_is)
    (case qk12 => k_is)
    (case ja => k_is)
    (case jn2 => k_is)
    (case jt2 => k_is)
    (case jm => k_is)
    (case z1 => k_is)
    (case z2 => k_is)
    (case z3 => k_is)
    (case z4 => k_is)
    (case z5 => k_is)
    (case z6 => k_is)
    (case z7 => k_is)
    (case z8 => k_is)
    (case z9 => k_is)
    (case z10 => k_is)
    (case z11 => k_is)
    (case z12 => k_is)
    (case z13 => k_is)
    (case z14 => k_is)
    (case z15 => k_is)
    (case z16 => k_is)
    (case z17 => k_is)
    (case z18 => k_is)
    (case z19 => k_is)
    (case z20 => k_is)
    (case z21 => k_is)
    (case z22 => k_is)
    (case z23 => k_is)
