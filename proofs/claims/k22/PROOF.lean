import PyProof.Rows.All
import Wide.All
import OpenK.AllK
import Wide.FinOn
import HandS.ForMost
import HandS.ForExc
import HandS.Wide
import HandS.SortKw
import HandS.SortRule
import HandS.SortInts
import HandS.Style
import HandS.IsInst
import HandS.Conv
import HandS.Walk
import HandS.Flow
import HandS.More
import HandS.Defaults
import HandS.RaiseMore
import HandS.Remove
import HandS.Star
import HandS.Steps
import HandS.ClsMeth
import HandS.ExcField
import HandS.ExcInit
import HandS.ExcIs
import HandS.FStr
import HandS.FStrTup
import HandS.ListItems
import HandS.SetFor
import HandS.Star
import HandS.Strs
import HandS.Wide
import HandS.WideBits
import HandS.Zip
import KE.DatumOrd
import KE.KExcIs
import PySem.Challenge.RW_elderinn_k22_crowds_refused
set_option Elab.async false
set_option linter.all false
set_option maxRecDepth 100000
set_option maxHeartbeats 8000000
namespace El
/-! ### the rule by age, in plain lists -/
def place : List (List Int) → Int → Int → List (List Int)
  | [], a, _ => [[a]]
  | r :: rs, a, p => if (r.length : Int) ≤ p then (r ++ [a]) :: rs else r :: place rs a p
def firstB : List (List Int) → Int → Nat
  | [], _ => 0
  | r :: rs, p => if (r.length : Int) ≤ p then 0 else firstB rs p + 1
theorem firstB_le : ∀ (rs : List (List Int)) (p : Int), firstB rs p ≤ rs.length
  | [], _ => Nat.le_refl _
  | r :: rs, p => by
    unfold firstB
    split
    · exact Nat.zero_le _
    · exact Nat.succ_le_succ (firstB_le rs p)
theorem firstB_out : ∀ (rs : List (List Int)) (p : Int) (i : Nat) (r : List Int), i < firstB rs p → rs[i]? = some r → p < (r.length : Int)
  | [], _, _, _, h, _ => absurd h (Nat.not_lt_zero _)
  | s :: rs, p, i, r, h, e => by
    unfold firstB at h
    split at h
    · exact absurd h (Nat.not_lt_zero _)
    · rename_i hn
      cases i with
      | zero =>
        have e' : s = r := Option.some.inj e
        subst e'
        omega
      | succ i => exact firstB_out rs p i r (Nat.lt_of_succ_lt_succ h) (by simpa using e)
theorem firstB_in : ∀ (rs : List (List Int)) (p : Int), firstB rs p < rs.length → ∃ r, rs[firstB rs p]? = some r ∧ (r.length : Int) ≤ p
  | [], _, h => absurd h (Nat.not_lt_zero _)
  | s :: rs, p, h => by
    unfold firstB at h ⊢
    split
    · rename_i hn
      exact ⟨s, rfl, hn⟩
    · rename_i hn
      rw [if_neg hn] at h
      obtain ⟨r, e, q⟩ := firstB_in rs p (Nat.lt_of_succ_lt_succ h)
      exact ⟨r, by simpa using e, q⟩
theorem firstB_is : ∀ (rs : List (List Int)) (p : Int) (i : Nat), i ≤ rs.length → (∀ j r, j < i → rs[j]? = some r → p < (r.length : Int)) → (∀ r, rs[i]? = some r → (r.length : Int) ≤ p) → firstB rs p = i
  | [], _, i, h, _, _ => by
    have : i = 0 := Nat.le_zero.mp h
    subst this
    rfl
  | s :: rs, p, 0, _, _, h2 => by
    unfold firstB
    rw [if_pos (h2 s rfl)]
  | s :: rs, p, i + 1, h, h1, h2 => by
    have h0 := h1 0 s (Nat.succ_pos _) rfl
    unfold firstB
    rw [if_neg (by omega), firstB_is rs p i (Nat.le_of_succ_le_succ h) (fun j r hj e => h1 (j + 1) r (Nat.succ_lt_succ hj) (by simpa using e)) fun r e => h2 r (by simpa using e)]
theorem place_new : ∀ (rs : List (List Int)) (a p : Int), firstB rs p = rs.length → place rs a p = rs ++ [[a]]
  | [], _, _, _ => rfl
  | r :: rs, a, p, h => by
    unfold firstB at h
    unfold place
    split at h
    · exact absurd h (by rw [List.length_cons]; omega)
    · rename_i hn
      rw [if_neg hn, place_new rs a p (by rw [List.length_cons] at h; omega)]
      rfl
theorem place_at : ∀ (rs : List (List Int)) (a p : Int) (r : List Int), rs[firstB rs p]? = some r → place rs a p = rs.set (firstB rs p) (r ++ [a])
  | [], _, _, _, h => by simp at h
  | s :: rs, a, p, r, h => by
    unfold firstB at h ⊢
    unfold place
    split
    · rename_i hn
      rw [if_pos hn] at h
      have e : s = r := Option.some.inj h
      subst e
      rfl
    · rename_i hn
      rw [if_neg hn] at h
      rw [place_at rs a p r (by simpa using h)]
      rfl
theorem place_len (rs : List (List Int)) (a p : Int) : (place rs a p).length = if firstB rs p = rs.length then rs.length + 1 else rs.length := by
  by_cases h : firstB rs p = rs.length
  · rw [if_pos h, place_new rs a p h, List.length_append]
    rfl
  · have hl := firstB_le rs p
    obtain ⟨r, e, _⟩ := firstB_in rs p (by omega)
    rw [if_neg h, place_at rs a p r e, List.length_set]
/-- all in order -/
def settleL (gs : List (Int × Int)) : List (List Int) := gs.foldl (fun rs g => place rs g.1 g.2) []
theorem settleL_snoc (gs : List (Int × Int)) (g : Int × Int) : settleL (gs ++ [g]) = place (settleL gs) g.1 g.2 := by
  unfold settleL
  rw [List.foldl_append]
  rfl
theorem settleL_take {gs : List (Int × Int)} {i : Nat} {g : Int × Int} (h : gs[i]? = some g) : settleL (gs.take (i + 1)) = place (settleL (gs.take i)) g.1 g.2 := by
  rw [List.take_add_one, h]
  exact settleL_snoc _ _
theorem place_count (rs : List (List Int)) (a p : Int) : (place rs a p).flatten.length = rs.flatten.length + 1 := by
  induction rs with
  | nil => rfl
  | cons r rs ih =>
    unfold place
    split
    · simp only [List.flatten_cons, List.length_append, List.length_cons, List.length_nil]
      omega
    · simp only [List.flatten_cons, List.length_append]
      omega
theorem settleL_count (gs : List (Int × Int)) : (settleL gs).flatten.length = gs.length := by
  suffices h : ∀ (gs : List (Int × Int)) (rs : List (List Int)), (gs.foldl (fun rs g => place rs g.1 g.2) rs).flatten.length = rs.flatten.length + gs.length by
    have q := h gs []
    rw [List.flatten_nil, List.length_nil, Nat.zero_add] at q
    exact q
  intro gs
  induction gs with
  | nil => intro rs; rfl
  | cons g gs ih =>
    intro rs
    rw [List.foldl_cons, ih, place_count, List.length_cons]
    omega
theorem place_ne (rs : List (List Int)) (a p : Int) (h : ∀ r ∈ rs, r ≠ []) : ∀ r ∈ place rs a p, r ≠ [] := by
  induction rs with
  | nil =>
    intro r hr
    rw [List.mem_singleton.mp hr]
    exact List.cons_ne_nil _ _
  | cons s rs ih =>
    unfold place
    split
    · intro r hr
      rcases List.mem_cons.mp hr with e | hr
      · rw [e]
        simp
      · exact h r (List.mem_cons_of_mem _ hr)
    · intro r hr
      rcases List.mem_cons.mp hr with e | hr
      · rw [e]
        exact h s List.mem_cons_self
      · exact ih (fun r hr => h r (List.mem_cons_of_mem _ hr)) r hr
theorem settleL_ne (gs : List (Int × Int)) : ∀ r ∈ settleL gs, r ≠ [] := by
  suffices h : ∀ (gs : List (Int × Int)) (rs : List (List Int)), (∀ r ∈ rs, r ≠ []) → ∀ r ∈ gs.foldl (fun rs g => place rs g.1 g.2) rs, r ≠ [] from h gs [] (fun r hr => absurd hr (by simp))
  intro gs
  induction gs with
  | nil => intro rs h; exact h
  | cons g gs ih =>
    intro rs h
    rw [List.foldl_cons]
    exact ih _ (place_ne rs _ _ h)
theorem len_le_flat : ∀ (rs : List (List Int)), (∀ r ∈ rs, r ≠ []) → rs.length ≤ rs.flatten.length
  | [], _ => Nat.le_refl _
  | r :: rs, h => by
    have h1 := h r List.mem_cons_self
    have h2 := len_le_flat rs fun r hr => h r (List.mem_cons_of_mem _ hr)
    have h3 : 0 < r.length := List.length_pos_iff.mpr h1
    rw [List.flatten_cons, List.length_append, List.length_cons]
    omega
theorem room_le_flat : ∀ (rs : List (List Int)) (r : List Int), r ∈ rs → r.length ≤ rs.flatten.length
  | s :: rs, r, h => by
    rw [List.flatten_cons, List.length_append]
    rcases List.mem_cons.mp h with e | h
    · rw [e]
      omega
    · have := room_le_flat rs r h
      omega
theorem settleL_len (gs : List (Int × Int)) : (settleL gs).length ≤ gs.length := by
  rw [← settleL_count gs]
  exact len_le_flat _ (settleL_ne gs)
theorem settleL_room {gs : List (Int × Int)} {r : List Int} (h : r ∈ settleL gs) : r.length ≤ gs.length := by
  rw [← settleL_count gs]
  exact room_le_flat _ _ h
/-- sizes never rise -/
def Falls (rs : List (List Int)) : Prop := rs.Pairwise fun r s => s.length ≤ r.length
theorem place_mem {rs : List (List Int)} {a p : Int} {r : List Int} (h : r ∈ place rs a p) : r ∈ rs ∨ (∃ s ∈ rs, r = s ++ [a] ∧ (s.length : Int) ≤ p) ∨ r = [a] := by
  induction rs with
  | nil => exact .inr (.inr (List.mem_singleton.mp h))
  | cons s rs ih =>
    unfold place at h
    split at h
    · rename_i hn
      rcases List.mem_cons.mp h with e | h
      · exact .inr (.inl ⟨s, List.mem_cons_self, e, hn⟩)
      · exact .inl (List.mem_cons_of_mem _ h)
    · rcases List.mem_cons.mp h with e | h
      · rw [e]
        exact .inl List.mem_cons_self
      · rcases ih h with q | ⟨t, ht, q⟩ | q
        · exact .inl (List.mem_cons_of_mem _ q)
        · exact .inr (.inl ⟨t, List.mem_cons_of_mem _ ht, q⟩)
        · exact .inr (.inr q)
theorem place_falls (rs : List (List Int)) (a p : Int) (hp : 0 ≤ p) (h : Falls rs) : Falls (place rs a p) := by
  induction rs with
  | nil => exact List.pairwise_singleton _ _
  | cons s rs ih =>
    obtain ⟨h1, h2⟩ := List.pairwise_cons.mp h
    unfold place
    split
    · refine List.pairwise_cons.mpr ⟨fun r hr => ?_, h2⟩
      have := h1 r hr
      rw [List.length_append]
      omega
    · rename_i hn
      refine List.pairwise_cons.mpr ⟨fun r hr => ?_, ih h2⟩
      rcases place_mem hr with q | ⟨t, ht, q, q2⟩ | q
      · exact h1 r q
      · rw [q, List.length_append, List.length_singleton]
        omega
      · rw [q, List.length_singleton]
        omega
theorem settleL_falls (gs : List (Int × Int)) (h : ∀ g ∈ gs, 0 ≤ g.2) : Falls (settleL gs) := by
  suffices q : ∀ (gs : List (Int × Int)) (rs : List (List Int)), (∀ g ∈ gs, 0 ≤ g.2) → Falls rs → Falls (gs.foldl (fun rs g => place rs g.1 g.2) rs) from q gs [] h List.Pairwise.nil
  intro gs
  induction gs with
  | nil => intro rs _ hr; exact hr
  | cons g gs ih =>
    intro rs hg hr
    rw [List.foldl_cons]
    exact ih _ (fun x hx => hg x (List.mem_cons_of_mem _ hx)) (place_falls rs _ _ (hg g List.mem_cons_self) hr)
/-! ### from the eldest on -/
def byAge (gs : List (Int × Int)) : List (Int × Int) := gs.mergeSort fun g h => decide (h.1 ≤ g.1)
theorem byAge_perm (gs : List (Int × Int)) : (byAge gs).Perm gs := List.mergeSort_perm _ _
theorem byAge_sorted (gs : List (Int × Int)) : (byAge gs).Pairwise fun g h => h.1 ≤ g.1 := by
  have q := List.pairwise_mergeSort (le := fun (g h : Int × Int) => decide (h.1 ≤ g.1)) (fun a b c h1 h2 => by
    have h1 := of_decide_eq_true h1
    have h2 := of_decide_eq_true h2
    exact decide_eq_true (by omega)) (fun a b => by
    by_cases h : b.1 ≤ a.1
    · simp [h]
    · have : a.1 ≤ b.1 := by omega
      simp [this]) gs
  exact q.imp fun h => of_decide_eq_true h
theorem byAge_length (gs : List (Int × Int)) : (byAge gs).length = gs.length := (byAge_perm gs).length_eq
theorem sorted_uniq {α : Type} (k : α → Int) : ∀ {l m : List α}, l.Perm m → (l.map k).Nodup → l.Pairwise (fun g h => k h ≤ k g) → m.Pairwise (fun g h => k h ≤ k g) → l = m
  | [], m, p, _, _, _ => by rw [List.nil_perm.mp p]
  | x :: l, [], p, _, _, _ => absurd p.length_eq (by simp)
  | x :: l, y :: m, p, nd, h1, h2 => by
    have nd' : (k x :: l.map k).Nodup := nd
    obtain ⟨n1, n2⟩ := List.nodup_cons.mp nd'
    obtain ⟨a1, a2⟩ := List.pairwise_cons.mp h1
    obtain ⟨b1, b2⟩ := List.pairwise_cons.mp h2
    have e : x = y := by
      rcases List.mem_cons.mp (p.mem_iff.mp List.mem_cons_self) with e | hx
      · exact e
      · have hy : y ∈ x :: l := p.mem_iff.mpr List.mem_cons_self
        rcases List.mem_cons.mp hy with e | hy
        · exact e.symm
        · have c1 := b1 x hx
          have c2 := a1 y hy
          have c3 : k x = k y := by omega
          exact absurd (List.mem_map.mpr ⟨y, hy, c3.symm⟩) n1
    subst e
    rw [sorted_uniq k (List.Perm.cons_inv p) n2 a2 b2]
def settle (gs : List (Int × Int)) : List (List Int) := settleL (byAge gs)
/-- guests that there can be -/
structure Fit (gs : List (Int × Int)) : Prop where
  nd : (gs.map (·.1)).Nodup
  pos : ∀ g ∈ gs, 0 ≤ g.2
theorem Fit.perm {gs hs : List (Int × Int)} (f : Fit gs) (p : hs.Perm gs) : Fit hs := ⟨((p.map (·.1)).nodup_iff).mpr f.nd, fun g hg => f.pos g (p.mem_iff.mp hg)⟩
theorem Fit.byAge {gs : List (Int × Int)} (f : Fit gs) : Fit (byAge gs) := f.perm (byAge_perm gs)
theorem byAge_of {gs hs : List (Int × Int)} (f : Fit gs) (p : hs.Perm gs) (h : hs.Pairwise fun g h => h.1 ≤ g.1) : hs = byAge gs :=
  sorted_uniq (·.1) (p.trans (byAge_perm gs).symm) (f.perm p).nd h (byAge_sorted gs)
theorem byAge_congr {gs hs : List (Int × Int)} (f : Fit gs) (p : hs.Perm gs) : byAge hs = byAge gs :=
  byAge_of f ((byAge_perm hs).trans p) (byAge_sorted hs)
theorem ages_of {gs : List (Int × Int)} (f : Fit gs) {ns : List Int} (p : ns.Perm (gs.map (·.1))) (h : ns.Pairwise (· ≥ ·)) : ns = (byAge gs).map (·.1) := by
  refine sorted_uniq (fun x : Int => x) (p.trans ((byAge_perm gs).map (·.1)).symm) ?_ (h.imp fun q => q) ?_
  · rw [List.map_id']
    exact (p.nodup_iff).mpr f.nd
  · rw [List.pairwise_map]
    exact byAge_sorted gs
theorem settle_congr {gs hs : List (Int × Int)} (f : Fit gs) (p : hs.Perm gs) : settle hs = settle gs := by
  unfold settle
  rw [byAge_congr f p]
end El
namespace El
/-! ### who has more elders than they bear -/
def down (ns : List Int) : List Int := ns.mergeSort fun a b => decide (b ≤ a)
theorem down_perm (ns : List Int) : (down ns).Perm ns := List.mergeSort_perm _ _
theorem down_sorted (ns : List Int) : (down ns).Pairwise (· ≥ ·) := by
  have q := List.pairwise_mergeSort (le := fun (g h : Int) => decide (h ≤ g)) (fun a b c h1 h2 => by
    have h1 := of_decide_eq_true h1
    have h2 := of_decide_eq_true h2
    exact decide_eq_true (by omega)) (fun a b => by
    by_cases h : b ≤ a
    · simp [h]
    · have : a ≤ b := by omega
      simp [this]) ns
  exact q.imp fun h => of_decide_eq_true h
theorem desc_uniq : ∀ {l m : List Int}, l.Perm m → l.Pairwise (· ≥ ·) → m.Pairwise (· ≥ ·) → l = m
  | [], m, p, _, _ => by rw [List.nil_perm.mp p]
  | x :: l, [], p, _, _ => absurd p.length_eq (by simp)
  | x :: l, y :: m, p, h1, h2 => by
    obtain ⟨a1, a2⟩ := List.pairwise_cons.mp h1
    obtain ⟨b1, b2⟩ := List.pairwise_cons.mp h2
    have e : x = y := by
      rcases List.mem_cons.mp (p.mem_iff.mp List.mem_cons_self) with e | hx
      · exact e
      · have hy : y ∈ x :: l := p.mem_iff.mpr List.mem_cons_self
        rcases List.mem_cons.mp hy with e | hy
        · exact e.symm
        · have c1 := b1 x hx
          have c2 := a1 y hy
          omega
    subst e
    rw [desc_uniq (List.Perm.cons_inv p) a2 b2]
theorem down_is {l ns : List Int} (p : l.Perm ns) (h : l.Pairwise (· ≥ ·)) : l = down ns := desc_uniq (p.trans (down_perm ns).symm) h (down_sorted ns)
def pof (gs : List (Int × Int)) (a : Int) : Int := match gs.find? fun g => decide (g.1 = a) with | some g => g.2 | none => 0
theorem pof_is : ∀ {gs : List (Int × Int)} {g : Int × Int}, (gs.map (·.1)).Nodup → g ∈ gs → pof gs g.1 = g.2
  | x :: gs, g, nd, h => by
    have nd' : (x.1 :: gs.map (·.1)).Nodup := nd
    obtain ⟨n1, n2⟩ := List.nodup_cons.mp nd'
    rcases List.mem_cons.mp h with e | h
    · subst e
      unfold pof
      rw [List.find?_cons_of_pos (by simp)]
    · have n : ¬ x.1 = g.1 := fun z => n1 (by rw [z]; exact List.mem_map.mpr ⟨g, h, rfl⟩)
      have := pof_is n2 h
      unfold pof at this ⊢
      rw [List.find?_cons_of_neg (by simpa using n)]
      exact this
def upIn (pf : Int → Int) : List Int → Nat → Option Int
  | [], _ => none
  | a :: l, i => if pf a < (i : Int) then some a else upIn pf l (i + 1)
theorem upIn_none {pf : Int → Int} : ∀ {l : List Int} {k : Nat}, (∀ (i : Nat) (a : Int), l[i]? = some a → ((i + k : Nat) : Int) ≤ pf a) → upIn pf l k = none
  | [], _, _ => rfl
  | a :: l, k, h => by
    unfold upIn
    have h0 := h 0 a rfl
    rw [if_neg (by omega)]
    exact upIn_none fun i b e => by
      have := h (i + 1) b (by simpa using e)
      omega
theorem upIn_at {pf : Int → Int} {l : List Int} {a : Int} : ∀ {i k : Nat}, l[i]? = some a → (∀ (j : Nat) (b : Int), j < i → l[j]? = some b → ((j + k : Nat) : Int) ≤ pf b) → pf a < ((i + k : Nat) : Int) → upIn pf l k = some a := by
  induction l with
  | nil => intro i k e; simp at e
  | cons x l ih =>
    intro i k e h1 h2
    unfold upIn
    cases i with
    | zero =>
      obtain rfl : x = a := Option.some.inj e
      rw [if_pos (by omega)]
    | succ i =>
      have h0 := h1 0 x (Nat.succ_pos _) rfl
      rw [if_neg (by omega)]
      exact ih (i := i) (by simpa using e) (fun j b hj e' => by
        have := h1 (j + 1) b (Nat.succ_lt_succ hj) (by simpa using e')
        omega) (by omega)
def eldUp (gs : List (Int × Int)) (ns : List Int) : Option Int := upIn (pof gs) (down ns) 0
def upsetOf (gs : List (Int × Int)) : List (List Int) → Nat → Option (Nat × Int)
  | [], _ => none
  | r :: rs, i => match eldUp gs r with | some a => some (i, a) | none => upsetOf gs rs (i + 1)
theorem upsetOf_none {gs : List (Int × Int)} : ∀ {rs : List (List Int)} {k : Nat}, (∀ r ∈ rs, eldUp gs r = none) → upsetOf gs rs k = none
  | [], _, _ => rfl
  | r :: rs, k, h => by
    unfold upsetOf
    rw [h r List.mem_cons_self]
    exact upsetOf_none fun s m => h s (List.mem_cons_of_mem _ m)
theorem upsetOf_at {gs : List (Int × Int)} {rs : List (List Int)} {r : List Int} {a : Int} : ∀ {i k : Nat}, rs[i]? = some r → (∀ (j : Nat) (s : List Int), j < i → rs[j]? = some s → eldUp gs s = none) → eldUp gs r = some a → upsetOf gs rs k = some (i + k, a) := by
  induction rs with
  | nil => intro i k e; simp at e
  | cons x rs ih =>
    intro i k e h1 h2
    unfold upsetOf
    cases i with
    | zero =>
      obtain rfl : x = r := Option.some.inj e
      rw [h2, Nat.zero_add]
    | succ i =>
      rw [h1 0 x (Nat.succ_pos _) rfl]
      have z := ih (i := i) (k := k + 1) (by simpa using e) (fun j b hj e' => h1 (j + 1) b (Nat.succ_lt_succ hj) (by simpa using e')) h2
      show upsetOf gs rs (k + 1) = _
      rw [z, show i + (k + 1) = i + 1 + k by omega]
/-! ### the rooms by age are in peace -/
def Fine (L : List (Int × Int)) (r : List Int) : Prop := r.Pairwise (· ≥ ·) ∧ ∀ (i : Nat) (a : Int), r[i]? = some a → ∃ g ∈ L, g.1 = a ∧ (i : Int) ≤ g.2
theorem Fine.mem {L : List (Int × Int)} {r : List Int} (h : Fine L r) {a : Int} (m : a ∈ r) : ∃ g ∈ L, g.1 = a := by
  obtain ⟨i, e⟩ := List.mem_iff_getElem?.mp m
  obtain ⟨g, h1, h2, _⟩ := h.2 i a e
  exact ⟨g, h1, h2⟩
theorem Fine.more {L M : List (Int × Int)} {r : List Int} (h : Fine L r) (k : ∀ g ∈ L, g ∈ M) : Fine M r := ⟨h.1, fun i a e => by
  obtain ⟨g, h1, h2⟩ := h.2 i a e
  exact ⟨g, k g h1, h2⟩⟩
theorem settleL_fine {L : List (Int × Int)} (hL : L.Pairwise fun g h => h.1 ≤ g.1) (hp : ∀ g ∈ L, 0 ≤ g.2) : ∀ i, i ≤ L.length → ∀ r ∈ settleL (L.take i), Fine (L.take i) r
  | 0, _, r, hr => by
    rw [List.take_zero] at hr
    exact absurd hr (List.not_mem_nil)
  | i + 1, hi, r, hr => by
    have ih := settleL_fine hL hp i (by omega)
    have eg : L[i]? = some L[i] := List.getElem?_eq_getElem hi
    generalize hg : L[i] = g at eg
    have hm : g ∈ L := List.mem_of_getElem? eg
    have hle : ∀ x ∈ L.take i, g.1 ≤ x.1 := by
      have e2 : L = L.take i ++ g :: L.drop (i + 1) := by
        have := List.getElem_cons_drop (as := L) (i := i) hi
        rw [hg] at this
        rw [this, List.take_append_drop]
      rw [e2] at hL
      exact fun x hx => (List.pairwise_append.mp hL).2.2 x hx g List.mem_cons_self
    have et : L.take (i + 1) = L.take i ++ [g] := by
      rw [List.take_add_one, eg]
      rfl
    rw [settleL_take eg] at hr
    rw [et]
    rcases place_mem hr with q | ⟨s, hs, e, hle2⟩ | q
    · exact (ih r q).more fun x hx => List.mem_append_left _ hx
    · have hF := ih s hs
      subst e
      refine ⟨?_, fun j a e => ?_⟩
      · rw [List.pairwise_append]
        refine ⟨hF.1, List.pairwise_singleton _ _, fun x hx y hy => ?_⟩
        rw [List.mem_singleton.mp hy]
        obtain ⟨z, hz, rfl⟩ := hF.mem hx
        exact hle z hz
      · by_cases hj : j < s.length
        · rw [List.getElem?_append_left hj] at e
          obtain ⟨z, h1, h2⟩ := hF.2 j a e
          exact ⟨z, List.mem_append_left _ h1, h2⟩
        · rw [List.getElem?_append_right (by omega)] at e
          have hj0 : j - s.length = 0 := by
            have := (List.getElem?_eq_some_iff.mp e).1
            rw [List.length_singleton] at this
            omega
          rw [hj0] at e
          obtain rfl : g.1 = a := Option.some.inj e
          exact ⟨g, List.mem_append_right _ (List.mem_singleton.mpr rfl), rfl, by omega⟩
    · subst q
      refine ⟨List.pairwise_singleton _ _, fun j a e => ?_⟩
      have hj0 : j = 0 := by
        have := (List.getElem?_eq_some_iff.mp e).1
        rw [List.length_singleton] at this
        omega
      subst hj0
      obtain rfl : g.1 = a := Option.some.inj e
      exact ⟨g, List.mem_append_right _ (List.mem_singleton.mpr rfl), rfl, hp g hm⟩
theorem settle_fine {gs : List (Int × Int)} (f : Fit gs) {r : List Int} (hr : r ∈ settle gs) : Fine gs r := by
  have h := settleL_fine (byAge_sorted gs) f.byAge.pos (byAge gs).length (Nat.le_refl _) r (by rw [List.take_length]; exact hr)
  rw [List.take_length] at h
  exact h.more fun g hg => (byAge_perm gs).mem_iff.mp hg
theorem settle_calm {gs : List (Int × Int)} (f : Fit gs) {r : List Int} (hr : r ∈ settle gs) : eldUp gs r = none := by
  obtain ⟨h1, h2⟩ := settle_fine f hr
  unfold eldUp
  rw [← down_is (List.Perm.refl r) h1]
  refine upIn_none fun i a e => ?_
  obtain ⟨g, hg, rfl, hl⟩ := h2 i a e
  rw [pof_is f.nd hg]
  exact hl
theorem place_perm : ∀ (rs : List (List Int)) (a p : Int), (place rs a p).flatten.Perm (a :: rs.flatten)
  | [], a, p => List.Perm.refl _
  | r :: rs, a, p => by
    unfold place
    split
    · rw [List.flatten_cons, List.flatten_cons, List.append_assoc]
      exact List.perm_middle
    · rw [List.flatten_cons, List.flatten_cons]
      exact ((place_perm rs a p).append_left r).trans List.perm_middle
theorem foldl_place_perm : ∀ (L : List (Int × Int)) (rs : List (List Int)), (L.foldl (fun rs g => place rs g.1 g.2) rs).flatten.Perm (L.map (·.1) ++ rs.flatten)
  | [], rs => List.Perm.refl _
  | g :: L, rs => by
    rw [List.foldl_cons]
    refine (foldl_place_perm L _).trans (((place_perm rs g.1 g.2).append_left _).trans ?_)
    rw [List.map_cons, List.cons_append]
    exact List.perm_middle
theorem settle_flat (gs : List (Int × Int)) : (settle gs).flatten.Perm (gs.map (·.1)) := by
  have h := foldl_place_perm (byAge gs) []
  rw [List.flatten_nil, List.append_nil] at h
  exact h.trans ((byAge_perm gs).map _)
/-! ### those behind the first j rooms -/
theorem take_place_lt : ∀ (rs : List (List Int)) (a p : Int) (j : Nat), firstB rs p < j → (place rs a p).take j = place (rs.take j) a p
  | _, _, _, 0, h => absurd h (Nat.not_lt_zero _)
  | [], a, p, j + 1, _ => by
    rw [List.take_nil]
    unfold place
    rw [List.take_succ_cons, List.take_nil]
  | r :: rs, a, p, j + 1, h => by
    unfold firstB at h
    rw [List.take_succ_cons]
    unfold place
    split at h
    · rename_i q
      rw [if_pos q, if_pos q, List.take_succ_cons]
    · rename_i q
      rw [if_neg q, if_neg q, List.take_succ_cons, take_place_lt rs a p j (by omega)]
theorem take_place_ge : ∀ (rs : List (List Int)) (a p : Int) (j : Nat), j ≤ firstB rs p → (place rs a p).take j = rs.take j
  | _, _, _, 0, _ => by rw [List.take_zero, List.take_zero]
  | [], a, p, j + 1, h => absurd h (Nat.not_succ_le_zero _)
  | r :: rs, a, p, j + 1, h => by
    unfold firstB at h
    unfold place
    split at h
    · exact absurd h (Nat.not_succ_le_zero _)
    · rename_i q
      rw [if_neg q, List.take_succ_cons, List.take_succ_cons, take_place_ge rs a p j (by omega)]
theorem drop_place_lt : ∀ (rs : List (List Int)) (a p : Int) (j : Nat), firstB rs p < j → (place rs a p).drop j = rs.drop j
  | _, _, _, 0, h => absurd h (Nat.not_lt_zero _)
  | [], a, p, j + 1, _ => by
    unfold place
    rw [List.drop_succ_cons, List.drop_nil, List.drop_nil]
  | r :: rs, a, p, j + 1, h => by
    unfold firstB at h
    unfold place
    split at h
    · rename_i q
      rw [if_pos q, List.drop_succ_cons, List.drop_succ_cons]
    · rename_i q
      rw [if_neg q, List.drop_succ_cons, List.drop_succ_cons, drop_place_lt rs a p j (by omega)]
theorem drop_place_ge : ∀ (rs : List (List Int)) (a p : Int) (j : Nat), j ≤ firstB rs p → (place rs a p).drop j = place (rs.drop j) a p
  | _, _, _, 0, _ => by rw [List.drop_zero, List.drop_zero]
  | [], a, p, j + 1, h => absurd h (Nat.not_succ_le_zero _)
  | r :: rs, a, p, j + 1, h => by
    unfold firstB at h
    split at h
    · exact absurd h (Nat.not_succ_le_zero _)
    · rename_i q
      rw [List.drop_succ_cons]
      show (if (r.length : Int) ≤ p then (r ++ [a]) :: rs else r :: place rs a p).drop (j + 1) = _
      rw [if_neg q, List.drop_succ_cons, drop_place_ge rs a p j (by omega)]
def kept (j : Nat) : List (List Int) → List (Int × Int) → List (Int × Int)
  | _, [] => []
  | rs, g :: L => if firstB rs g.2 < j then g :: kept j (place rs g.1 g.2) L else kept j (place rs g.1 g.2) L
def gone (j : Nat) : List (List Int) → List (Int × Int) → List (Int × Int)
  | _, [] => []
  | rs, g :: L => if firstB rs g.2 < j then gone j (place rs g.1 g.2) L else g :: gone j (place rs g.1 g.2) L
theorem gone_sub (j : Nat) : ∀ (L : List (Int × Int)) (rs : List (List Int)), ∀ g ∈ gone j rs L, g ∈ L
  | [], _, g, h => h
  | x :: L, rs, g, h => by
    unfold gone at h
    split at h
    · exact List.mem_cons_of_mem _ (gone_sub j L _ g h)
    · rcases List.mem_cons.mp h with e | h
      · rw [e]
        exact List.mem_cons_self
      · exact List.mem_cons_of_mem _ (gone_sub j L _ g h)
theorem kept_settle (j : Nat) : ∀ (L : List (Int × Int)) (rs : List (List Int)), (kept j rs L).foldl (fun rs g => place rs g.1 g.2) (rs.take j) = (L.foldl (fun rs g => place rs g.1 g.2) rs).take j
  | [], _ => rfl
  | g :: L, rs => by
    rw [List.foldl_cons]
    unfold kept
    split
    · rename_i h
      rw [List.foldl_cons, ← take_place_lt rs g.1 g.2 j h]
      exact kept_settle j L _
    · rename_i h
      rw [← take_place_ge rs g.1 g.2 j (by omega)]
      exact kept_settle j L _
theorem gone_settle (j : Nat) : ∀ (L : List (Int × Int)) (rs : List (List Int)), ((L.foldl (fun rs g => place rs g.1 g.2) rs).drop j).flatten.Perm ((gone j rs L).map (·.1) ++ (rs.drop j).flatten)
  | [], _ => List.Perm.refl _
  | g :: L, rs => by
    rw [List.foldl_cons]
    refine (gone_settle j L _).trans ?_
    show ((gone j (place rs g.1 g.2) L).map (·.1) ++ _).Perm ((if firstB rs g.2 < j then gone j (place rs g.1 g.2) L else g :: gone j (place rs g.1 g.2) L).map (·.1) ++ _)
    split
    · rename_i h
      rw [drop_place_lt rs g.1 g.2 j h]
    · rename_i h
      rw [drop_place_ge rs g.1 g.2 j (by omega), List.map_cons, List.cons_append]
      exact ((place_perm (rs.drop j) g.1 g.2).append_left _).trans List.perm_middle
theorem kept_filter (j : Nat) : ∀ (L : List (Int × Int)) (rs : List (List Int)) (S : List Int), (L.map (·.1)).Nodup → (∀ g ∈ L, g.1 ∈ S ↔ g.1 ∈ (gone j rs L).map (·.1)) → L.filter (fun g => !decide (g.1 ∈ S)) = kept j rs L
  | [], _, _, _, _ => rfl
  | g :: L, rs, S, nd, h => by
    have nd' : (g.1 :: L.map (·.1)).Nodup := nd
    obtain ⟨n1, n2⟩ := List.nodup_cons.mp nd'
    have h0 := h g List.mem_cons_self
    unfold kept
    by_cases q : firstB rs g.2 < j
    · have eg : gone j rs (g :: L) = gone j (place rs g.1 g.2) L := by
        show (if _ then _ else _) = _
        rw [if_pos q]
      rw [eg] at h h0
      have ng : ¬ g.1 ∈ S := fun z => by
        obtain ⟨x, hx, e⟩ := List.mem_map.mp (h0.mp z)
        exact n1 (List.mem_map.mpr ⟨x, gone_sub j L _ x hx, e⟩)
      rw [if_pos q, List.filter_cons_of_pos (by simpa using ng), kept_filter j L _ S n2 fun x hx => h x (List.mem_cons_of_mem _ hx)]
    · have eg : gone j rs (g :: L) = g :: gone j (place rs g.1 g.2) L := by
        show (if _ then _ else _) = _
        rw [if_neg q]
      rw [eg] at h h0
      have ng : g.1 ∈ S := h0.mpr List.mem_cons_self
      rw [if_neg q, List.filter_cons_of_neg (by simpa using ng)]
      refine kept_filter j L _ S n2 fun x hx => ?_
      have hx1 := h x (List.mem_cons_of_mem _ hx)
      rw [hx1, List.map_cons, List.mem_cons]
      have ne : ¬ x.1 = g.1 := fun z => n1 (by rw [← z]; exact List.mem_map.mpr ⟨x, hx, rfl⟩)
      exact ⟨fun z => z.resolve_left ne, .inr⟩
theorem Fit.filter {gs : List (Int × Int)} (f : Fit gs) (k : Int × Int → Bool) : Fit (gs.filter k) :=
  ⟨f.nd.sublist (List.filter_sublist.map _), fun g hg => f.pos g (List.mem_filter.mp hg).1⟩
theorem byAge_filter {gs : List (Int × Int)} (f : Fit gs) (k : Int × Int → Bool) : byAge (gs.filter k) = (byAge gs).filter k :=
  (byAge_of (f.filter k) ((byAge_perm gs).filter k) ((byAge_sorted gs).sublist List.filter_sublist)).symm
theorem settle_left {gs : List (Int × Int)} (f : Fit gs) {S : List Int} {j : Nat} (h : ∀ a, a ∈ S ↔ a ∈ ((settle gs).drop j).flatten) : settle (gs.filter fun g => !decide (g.1 ∈ S)) = (settle gs).take j := by
  unfold settle
  rw [byAge_filter f]
  have hg := gone_settle j (byAge gs) []
  rw [List.drop_nil, List.flatten_nil, List.append_nil] at hg
  rw [kept_filter j (byAge gs) [] S f.byAge.nd fun g _ => (h g.1).trans hg.mem_iff]
  have := kept_settle j (byAge gs) []
  rw [List.take_nil] at this
  exact this
def sentAway (gs : List (Int × Int)) (j : Nat) : List Int := down ((settle gs).drop j).flatten
theorem sentAway_mem (gs : List (Int × Int)) (j : Nat) (a : Int) : a ∈ sentAway gs j ↔ a ∈ ((settle gs).drop j).flatten := (down_perm _).mem_iff
end El
namespace El
/-! ### one guest more -/
/-- b is s with one more put in -/
def Plus (s b : List Int) : Prop := ∃ (A : List Int) (m : Int) (B : List Int), s = A ++ B ∧ b = A ++ m :: B
/-- where s has g, b has m ahead -/
def Swap (s b : List Int) : Prop := ∃ (A : List Int) (m : Int) (B : List Int) (g : Int) (C : List Int), s = A ++ B ++ g :: C ∧ b = A ++ m :: B ++ C
def Alike (s b : List Int) : Prop := s = b ∨ Swap s b
theorem Plus.len {s b : List Int} (h : Plus s b) : b.length = s.length + 1 := by
  obtain ⟨A, m, B, rfl, rfl⟩ := h
  rw [List.length_append, List.length_append, List.length_cons]
  omega
theorem Alike.len {s b : List Int} (h : Alike s b) : b.length = s.length := by
  rcases h with rfl | ⟨A, m, B, g, C, rfl, rfl⟩
  · rfl
  · simp only [List.length_append, List.length_cons]
    omega
theorem Plus.snoc {s b : List Int} (h : Plus s b) (a : Int) : Plus (s ++ [a]) (b ++ [a]) := by
  obtain ⟨A, m, B, rfl, rfl⟩ := h
  exact ⟨A, m, B ++ [a], by rw [List.append_assoc], by rw [List.append_assoc]; rfl⟩
theorem Alike.snoc {s b : List Int} (h : Alike s b) (a : Int) : Alike (s ++ [a]) (b ++ [a]) := by
  rcases h with rfl | ⟨A, m, B, g, C, rfl, rfl⟩
  · exact .inl rfl
  · exact .inr ⟨A, m, B, g, C ++ [a], by simp only [List.append_assoc, List.cons_append], by simp only [List.append_assoc, List.cons_append]⟩
inductive Near : List (List Int) → List (List Int) → Prop
  | new (m : Int) : Near [] [[m]]
  | here {s b : List Int} (h : Plus s b) (rest : List (List Int)) : Near (s :: rest) (b :: rest)
  | skip {s b : List Int} {ss bs : List (List Int)} (h : Alike s b) (r : Near ss bs) : Near (s :: ss) (b :: bs)
theorem Near.place (rs : List (List Int)) (a p : Int) : Near rs (El.place rs a p) := by
  induction rs with
  | nil => exact .new a
  | cons r rs ih =>
    unfold El.place
    split
    · exact .here ⟨r, a, [], by simp, rfl⟩ rs
    · exact .skip (.inl rfl) ih
theorem Near.step {s b : List (List Int)} (h : Near s b) (a p : Int) (hp : 0 ≤ p) : Near (El.place s a p) (El.place b a p) := by
  induction h with
  | new m =>
    unfold El.place
    split
    · exact .here (s := [a]) (b := [m] ++ [a]) ⟨[], m, [a], rfl, rfl⟩ []
    · refine .skip (.inr ⟨[], m, [], a, [], rfl, rfl⟩) ?_
      exact .new a
  | @here s b hb rest =>
    have hl := hb.len
    unfold El.place
    by_cases h1 : (s.length : Int) ≤ p
    · rw [if_pos h1]
      by_cases h2 : (b.length : Int) ≤ p
      · rw [if_pos h2]
        exact .here (hb.snoc a) rest
      · rw [if_neg h2]
        obtain ⟨A, m, B, rfl, rfl⟩ := hb
        exact .skip (.inr ⟨A, m, B, a, [], rfl, by simp⟩) (Near.place rest a p)
    · rw [if_neg h1, if_neg (by omega)]
      exact .here hb _
  | @skip s b ss bs hs r ih =>
    have hl := hs.len
    unfold El.place
    by_cases h1 : (s.length : Int) ≤ p
    · rw [if_pos h1, if_pos (by omega)]
      exact .skip (hs.snoc a) r
    · rw [if_neg h1, if_neg (by omega)]
      exact .skip hs ih
theorem Near.fold {s b : List (List Int)} (h : Near s b) : ∀ (gs : List (Int × Int)), (∀ g ∈ gs, 0 ≤ g.2) → Near (gs.foldl (fun rs g => El.place rs g.1 g.2) s) (gs.foldl (fun rs g => El.place rs g.1 g.2) b)
  | [], _ => h
  | g :: gs, hp => by
    rw [List.foldl_cons, List.foldl_cons]
    exact Near.fold (h.step g.1 g.2 (hp g List.mem_cons_self)) gs fun x hx => hp x (List.mem_cons_of_mem _ hx)
/-- the order with one more -/
theorem byAge_split {gs : List (Int × Int)} {x : Int × Int} (f : Fit (x :: gs)) : ∃ pre post, byAge (x :: gs) = pre ++ x :: post ∧ byAge gs = pre ++ post := by
  have hx : x ∈ byAge (x :: gs) := (byAge_perm _).mem_iff.mpr List.mem_cons_self
  obtain ⟨pre, post, e⟩ := List.append_of_mem hx
  refine ⟨pre, post, e, ?_⟩
  have fg : Fit gs := ⟨(List.nodup_cons.mp f.nd).2, fun g hg => f.pos g (List.mem_cons_of_mem _ hg)⟩
  refine (byAge_of fg ?_ ?_).symm
  · have p : (pre ++ x :: post).Perm (x :: gs) := e ▸ byAge_perm (x :: gs)
    exact List.Perm.cons_inv (List.perm_middle.symm.trans p)
  · have s := byAge_sorted (x :: gs)
    rw [e] at s
    rw [List.pairwise_append] at s ⊢
    obtain ⟨s1, s2, s3⟩ := s
    exact ⟨s1, (List.pairwise_cons.mp s2).2, fun a ha b hb => s3 a ha b (List.mem_cons_of_mem _ hb)⟩
theorem settle_near {gs : List (Int × Int)} {x : Int × Int} (f : Fit (x :: gs)) : Near (settle gs) (settle (x :: gs)) := by
  obtain ⟨pre, post, e1, e2⟩ := byAge_split f
  unfold settle settleL
  rw [e1, e2, List.foldl_append, List.foldl_append, List.foldl_cons]
  exact (Near.place _ x.1 x.2).fold post fun g hg => f.pos g ((byAge_perm _).mem_iff.mp (by rw [e1]; exact List.mem_append_right _ (List.mem_cons_of_mem _ hg)))
/-- sizes: one room one fuller -/
def bump (L : List Int) (d : Nat) : List Int := if d < L.length then L.set d (L.getD d 0 + 1) else L ++ [1]
theorem bump_cons (x : Int) (L : List Int) (d : Nat) : bump (x :: L) (d + 1) = x :: bump L d := by
  unfold bump
  by_cases h : d < L.length
  · rw [if_pos h, if_pos (by rw [List.length_cons]; omega)]
    rfl
  · rw [if_neg h, if_neg (by rw [List.length_cons]; omega)]
    rfl
theorem Near.sizes {s b : List (List Int)} (h : Near s b) : ∃ d, d ≤ s.length ∧ b.map (fun r => (r.length : Int)) = bump (s.map fun r => (r.length : Int)) d := by
  induction h with
  | new m => exact ⟨0, Nat.le_refl _, rfl⟩
  | @here s b hb rest =>
    refine ⟨0, Nat.zero_le _, ?_⟩
    have hl := hb.len
    show ((b.length : Int) :: rest.map fun r => (r.length : Int)) = ((s.length : Int) + 1) :: rest.map fun r => (r.length : Int)
    rw [hl]
    rfl
  | @skip s b ss bs hs r ih =>
    obtain ⟨d, hd, e⟩ := ih
    refine ⟨d + 1, by rw [List.length_cons]; omega, ?_⟩
    rw [List.map_cons, List.map_cons, bump_cons, e, hs.len]
theorem bump_length (L : List Int) {d : Nat} : (bump L d).length = if d < L.length then L.length else L.length + 1 := by
  unfold bump
  split
  · rw [List.length_set]
  · rw [List.length_append]
    rfl
theorem bump_at (L : List Int) {d k : Nat} (hd : d ≤ L.length) (hk : k < (bump L d).length) : (bump L d)[k]? = some (L.getD k 0 + if k = d then 1 else 0) := by
  rw [bump_length] at hk
  unfold bump
  by_cases h : d < L.length
  · rw [if_pos h] at hk ⊢
    by_cases e : k = d
    · subst e
      rw [List.getElem?_set_self hk, if_pos rfl]
    · rw [List.getElem?_set_ne (fun z => e z.symm), if_neg e, Int.add_zero, List.getElem?_eq_getElem hk, List.getD_eq_getElem?_getD, List.getElem?_eq_getElem hk]
      rfl
  · rw [if_neg h] at hk ⊢
    have hd' : d = L.length := by omega
    subst hd'
    by_cases e : k = L.length
    · subst e
      rw [List.getElem?_append_right (Nat.le_refl _), Nat.sub_self, if_pos rfl, List.getD_eq_getElem?_getD, List.getElem?_eq_none (Nat.le_refl _)]
      rfl
    · have hk' : k < L.length := by omega
      rw [List.getElem?_append_left hk', if_neg e, Int.add_zero, List.getElem?_eq_getElem hk', List.getD_eq_getElem?_getD, List.getElem?_eq_getElem hk']
      rfl
end El
namespace El
/-! ### somebody comes: from room to room -/
/-- who is kept in a room with n inside, of those who come one after another -/
def g0 : Nat → List (Int × Int) → List (Int × Int)
  | _, [] => []
  | n, g :: L => if (n : Int) ≤ g.2 then g :: g0 (n + 1) L else g0 n L
/-- who goes on -/
def r0 : Nat → List (Int × Int) → List (Int × Int)
  | _, [] => []
  | n, g :: L => if (n : Int) ≤ g.2 then r0 (n + 1) L else g :: r0 n L
theorem g0_yes {n : Nat} {g : Int × Int} {L : List (Int × Int)} (h : (n : Int) ≤ g.2) : g0 n (g :: L) = g :: g0 (n + 1) L := if_pos h
theorem g0_no {n : Nat} {g : Int × Int} {L : List (Int × Int)} (h : ¬ (n : Int) ≤ g.2) : g0 n (g :: L) = g0 n L := if_neg h
theorem r0_yes {n : Nat} {g : Int × Int} {L : List (Int × Int)} (h : (n : Int) ≤ g.2) : r0 n (g :: L) = r0 (n + 1) L := if_pos h
theorem r0_no {n : Nat} {g : Int × Int} {L : List (Int × Int)} (h : ¬ (n : Int) ≤ g.2) : r0 n (g :: L) = g :: r0 n L := if_neg h
theorem fold_first : ∀ (L : List (Int × Int)) (r : List Int) (rs : List (List Int)), L.foldl (fun rs g => place rs g.1 g.2) (r :: rs) = (r ++ (g0 r.length L).map (·.1)) :: (r0 r.length L).foldl (fun rs g => place rs g.1 g.2) rs
  | [], r, rs => by
    show r :: rs = (r ++ []) :: rs
    rw [List.append_nil]
  | g :: L, r, rs => by
    rw [List.foldl_cons]
    by_cases h : (r.length : Int) ≤ g.2
    · have e : place (r :: rs) g.1 g.2 = (r ++ [g.1]) :: rs := by
        unfold place
        rw [if_pos h]
      rw [e, fold_first L, List.length_append, List.length_singleton]
      rw [g0_yes h, r0_yes h, List.map_cons, List.append_assoc]
      rfl
    · have e : place (r :: rs) g.1 g.2 = r :: place rs g.1 g.2 := by
        unfold place
        rw [if_neg h]
        cases rs <;> rfl
      rw [e, fold_first L]
      rw [g0_no h, r0_no h, List.foldl_cons]
/-- the first room, and the rooms of those who go on -/
theorem settle_first {L : List (Int × Int)} (hn : L ≠ []) (hp : ∀ g ∈ L, 0 ≤ g.2) : settleL L = (g0 0 L).map (·.1) :: settleL (r0 0 L) := by
  cases L with
  | nil => exact absurd rfl hn
  | cons g L =>
    have h0 : ((0 : Nat) : Int) ≤ g.2 := hp g (.head _)
    have e := fold_first L [g.1] []
    unfold settleL
    rw [List.foldl_cons]
    show L.foldl _ [[g.1]] = _
    rw [e, g0_yes h0, r0_yes h0]
    rfl
theorem g0_app : ∀ (A B : List (Int × Int)) (n : Nat), g0 n (A ++ B) = g0 n A ++ g0 (n + (g0 n A).length) B
  | [], B, n => rfl
  | g :: A, B, n => by
    rw [List.cons_append]
    by_cases h : (n : Int) ≤ g.2
    · rw [g0_yes h, g0_yes h, g0_app A B (n + 1), List.cons_append, List.length_cons, Nat.add_assoc, Nat.add_comm 1]
    · rw [g0_no h, g0_no h, g0_app A B n]
theorem r0_app : ∀ (A B : List (Int × Int)) (n : Nat), r0 n (A ++ B) = r0 n A ++ r0 (n + (g0 n A).length) B
  | [], B, n => rfl
  | g :: A, B, n => by
    rw [List.cons_append]
    by_cases h : (n : Int) ≤ g.2
    · rw [r0_yes h, r0_yes h, g0_yes h, r0_app A B (n + 1), List.length_cons, Nat.add_assoc, Nat.add_comm 1]
    · rw [r0_no h, r0_no h, g0_no h, r0_app A B n, List.cons_append]
/-- one more inside: nobody gives way, or one does, and all is as before from there on -/
theorem one_gives : ∀ (L : List (Int × Int)) (n : Nat), (g0 (n + 1) L = g0 n L ∧ r0 (n + 1) L = r0 n L ∧ ∀ i g, (g0 n L)[i]? = some g → ((n + 1 + i : Nat) : Int) ≤ g.2) ∨
    ∃ L1 y L2, L = L1 ++ y :: L2 ∧ g0 (n + 1) L1 = g0 n L1 ∧ r0 (n + 1) L1 = r0 n L1 ∧ (∀ i g, (g0 n L1)[i]? = some g → ((n + 1 + i : Nat) : Int) ≤ g.2) ∧ y.2 = ((n + (g0 n L1).length : Nat) : Int)
  | [], n => .inl ⟨rfl, rfl, fun i g e => by cases e⟩
  | g :: L, n => by
    by_cases h : (n : Int) ≤ g.2
    · by_cases h1 : ((n + 1 : Nat) : Int) ≤ g.2
      · rcases one_gives L (n + 1) with ⟨a, b, c⟩ | ⟨L1, y, L2, rfl, a, b, c, d⟩
        · refine .inl ⟨?_, ?_, fun i x e => ?_⟩
          · rw [g0_yes h, g0_yes h1, a]
          · rw [r0_yes h, r0_yes h1, b]
          · rw [g0_yes h] at e
            cases i with
            | zero => cases e; exact h1
            | succ i =>
              have := c i x e
              omega
        · refine .inr ⟨g :: L1, y, L2, rfl, ?_, ?_, fun i x e => ?_, ?_⟩
          · rw [g0_yes h, g0_yes h1, a]
          · rw [r0_yes h, r0_yes h1, b]
          · rw [g0_yes h] at e
            cases i with
            | zero => cases e; exact h1
            | succ i =>
              have := c i x e
              omega
          · rw [g0_yes h, List.length_cons, d]
            omega
      · exact .inr ⟨[], g, L, rfl, rfl, rfl, (fun i x e => by cases e), by show g.2 = ((n + 0 : Nat) : Int); omega⟩
    · have h1 : ¬ ((n + 1 : Nat) : Int) ≤ g.2 := by omega
      rcases one_gives L n with ⟨a, b, c⟩ | ⟨L1, y, L2, rfl, a, b, c, d⟩
      · refine .inl ⟨?_, ?_, fun i x e => ?_⟩
        · rw [g0_no h, g0_no h1, a]
        · rw [r0_no h, r0_no h1, b]
        · rw [g0_no h] at e
          exact c i x e
      · refine .inr ⟨g :: L1, y, L2, rfl, ?_, ?_, fun i x e => ?_, ?_⟩
        · rw [g0_no h, g0_no h1, a]
        · rw [r0_no h, r0_no h1, b]
        · rw [g0_no h] at e
          exact c i x e
        · rw [g0_no h]
          exact d
theorem g0_fine : ∀ (L : List (Int × Int)) (n i : Nat) (g : Int × Int), (g0 n L)[i]? = some g → ((n + i : Nat) : Int) ≤ g.2
  | [], _, _, _, e => by cases e
  | x :: L, n, i, g, e => by
    by_cases h : (n : Int) ≤ x.2
    · rw [g0_yes h] at e
      cases i with
      | zero => cases e; exact h
      | succ i =>
        have := g0_fine L (n + 1) i g e
        omega
    · rw [g0_no h] at e
      exact g0_fine L n i g e
theorem g0_sub : ∀ (L : List (Int × Int)) (n : Nat), (g0 n L).Sublist L
  | [], _ => .slnil
  | x :: L, n => by
    by_cases h : (n : Int) ≤ x.2
    · rw [g0_yes h]
      exact (g0_sub L (n + 1)).cons₂ x
    · rw [g0_no h]
      exact (g0_sub L n).cons x
theorem r0_sub : ∀ (L : List (Int × Int)) (n : Nat), (r0 n L).Sublist L
  | [], _ => .slnil
  | x :: L, n => by
    by_cases h : (n : Int) ≤ x.2
    · rw [r0_yes h]
      exact (r0_sub L (n + 1)).cons x
    · rw [r0_no h]
      exact (r0_sub L n).cons₂ x
/-- x comes among those of L, at its age's place -/
def Comes (x : Int × Int) (L L' : List (Int × Int)) : Prop := ∃ pre post, L = pre ++ post ∧ L' = pre ++ x :: post
/-- a room that x enters: either all bear it, and it is the room; or the first who does not is y, who goes on -/
theorem enters {x : Int × Int} {L L' : List (Int × Int)} (h : Comes x L L') (down' : L'.Pairwise fun g h => h.1 < g.1) :
    ∃ E : List (Int × Int), E.Perm (x :: g0 0 L) ∧ E.Pairwise (fun g h => h.1 < g.1) ∧
      (((∀ (j : Nat) (g : Int × Int), E[j]? = some g → (j : Int) ≤ g.2) ∧ g0 0 L' = E ∧ r0 0 L' = r0 0 L) ∨
        ∃ (i : Nat) (y : Int × Int), E[i]? = some y ∧ (∀ (j : Nat) (g : Int × Int), j < i → E[j]? = some g → (j : Int) ≤ g.2) ∧ y.2 < (i : Int) ∧ g0 0 L' = E.eraseIdx i ∧ Comes y (r0 0 L) (r0 0 L')) := by
  obtain ⟨pre, post, rfl, rfl⟩ := h
  have eg := g0_app pre post 0
  have er := r0_app pre post 0
  have eg' := g0_app pre (x :: post) 0
  have er' := r0_app pre (x :: post) 0
  rw [Nat.zero_add] at eg er eg' er'
  generalize hA : g0 0 pre = A at eg er eg' er'
  have fineA : ∀ (j : Nat) (g : Int × Int), A[j]? = some g → (j : Int) ≤ g.2 := fun j g e => by
    rw [← hA] at e
    have := g0_fine pre 0 j g e
    omega
  have subA : A.Sublist pre := hA ▸ g0_sub pre 0
  refine ⟨A ++ x :: g0 A.length post, ?_, down'.sublist (subA.append ((g0_sub post A.length).cons₂ x)), ?_⟩
  · rw [eg]
    exact List.perm_middle
  · by_cases hx : (A.length : Int) ≤ x.2
    · rw [eg', er', g0_yes hx, r0_yes hx, er]
      rcases one_gives post A.length with ⟨a, b, c⟩ | ⟨L1, y, L2, rfl, a, b, c, d⟩
      · refine .inl ⟨fun j g e => ?_, by rw [a], by rw [b]⟩
        by_cases hj : j < A.length
        · rw [List.getElem?_append_left hj] at e
          exact fineA j g e
        · rw [List.getElem?_append_right (by omega)] at e
          cases hd : j - A.length with
          | zero =>
            rw [hd] at e
            cases e
            omega
          | succ k =>
            rw [hd] at e
            have := c k g e
            omega
      · have d1 : ((A.length + (g0 A.length L1).length : Nat) : Int) ≤ y.2 := by omega
        have d2 : ¬ ((A.length + 1 + (g0 (A.length + 1) L1).length : Nat) : Int) ≤ y.2 := by rw [a]; omega
        have eold : g0 A.length (L1 ++ y :: L2) = g0 A.length L1 ++ y :: g0 (A.length + (g0 A.length L1).length + 1) L2 := by rw [g0_app, g0_yes d1]
        have enew : g0 (A.length + 1) (L1 ++ y :: L2) = g0 A.length L1 ++ g0 (A.length + (g0 A.length L1).length + 1) L2 := by
          rw [g0_app, g0_no d2, a]
          congr 2
          omega
        have rold : r0 A.length (L1 ++ y :: L2) = r0 A.length L1 ++ r0 (A.length + (g0 A.length L1).length + 1) L2 := by rw [r0_app, r0_yes d1]
        have rnew : r0 (A.length + 1) (L1 ++ y :: L2) = r0 A.length L1 ++ y :: r0 (A.length + (g0 A.length L1).length + 1) L2 := by
          rw [r0_app, r0_no d2, a, b]
          congr 3
          omega
        rw [eold, enew, rold, rnew]
        refine .inr ⟨A.length + 1 + (g0 A.length L1).length, y, ?_, fun j g hj e => ?_, by omega, ?_, r0 0 pre ++ r0 A.length L1, r0 (A.length + (g0 A.length L1).length + 1) L2, by rw [List.append_assoc], by rw [List.append_assoc]⟩
        · rw [List.getElem?_append_right (by omega), show A.length + 1 + (g0 A.length L1).length - A.length = (g0 A.length L1).length + 1 by omega, List.getElem?_cons_succ, List.getElem?_append_right (Nat.le_refl _), Nat.sub_self]
          rfl
        · by_cases h1 : j < A.length
          · rw [List.getElem?_append_left h1] at e
            exact fineA j g e
          · rw [List.getElem?_append_right (by omega)] at e
            cases hd : j - A.length with
            | zero =>
              rw [hd] at e
              cases e
              omega
            | succ k =>
              rw [hd, List.getElem?_cons_succ, List.getElem?_append_left (by omega)] at e
              have := c k g e
              omega
        · rw [List.eraseIdx_append_of_length_le (by omega), show A.length + 1 + (g0 A.length L1).length - A.length = (g0 A.length L1).length + 1 by omega, List.eraseIdx_cons_succ, List.eraseIdx_append_of_length_le (Nat.le_refl _), Nat.sub_self]
          rfl
    · rw [eg', er', g0_no hx, r0_no hx, er]
      refine .inr ⟨A.length, x, ?_, fun j g hj e => ?_, by omega, ?_, r0 0 pre, r0 A.length post, rfl, rfl⟩
      · rw [List.getElem?_append_right (Nat.le_refl _), Nat.sub_self]
        rfl
      · rw [List.getElem?_append_left hj] at e
        exact fineA j g e
      · rw [List.eraseIdx_append_of_length_le (Nat.le_refl _), Nat.sub_self]
        rfl
theorem map_erase0' {α β : Type} (f : α → β) : ∀ (l : List α) (k : Nat), (l.map f).eraseIdx k = (l.eraseIdx k).map f
  | [], _ => rfl
  | _ :: _, 0 => rfl
  | a :: l, k + 1 => by
    rw [List.map_cons, List.eraseIdx_cons_succ, List.eraseIdx_cons_succ, List.map_cons, map_erase0' f l k]
/-- who is in the first room -/
def roomOf (L : List (Int × Int)) : List Int := (g0 0 L).map (·.1)
theorem settle_parts {L : List (Int × Int)} (hp : ∀ g ∈ L, 0 ≤ g.2) : settleL L = if L = [] then [] else roomOf L :: settleL (r0 0 L) := by
  by_cases h : L = []
  · rw [if_pos h, h]
    rfl
  · rw [if_neg h]
    exact settle_first h hp
theorem erase_at : ∀ {l : List Int} {i : Nat} {a : Int}, l.Nodup → l[i]? = some a → l.erase a = l.eraseIdx i
  | x :: l, 0, a, _, e => by
    obtain rfl : x = a := Option.some.inj e
    rw [List.erase_cons_head]
    rfl
  | x :: l, i + 1, a, nd, e => by
    rw [List.nodup_cons] at nd
    have m : a ∈ l := List.mem_of_getElem? (i := i) (by simpa using e)
    have ne : x ≠ a := fun z => nd.1 (z ▸ m)
    rw [List.erase_cons_tail (by simpa using ne), List.eraseIdx_cons_succ, erase_at nd.2 (by simpa using e)]
/-- somebody enters the first room of those of L -/
theorem come_step {gs : List (Int × Int)} (F : Fit gs) {x : Int × Int} {L L' : List (Int × Int)} (h : Comes x L L') (sub : L'.Sublist (byAge gs)) :
    ∃ E : List Int, E.Perm (x.1 :: roomOf L) ∧ E.Pairwise (· > ·) ∧
      ((eldUp gs E = none ∧ settleL L' = E :: settleL (r0 0 L)) ∨ ∃ y, y ∈ L' ∧ y.1 ∈ E ∧ eldUp gs E = some y.1 ∧ settleL L' = E.erase y.1 :: settleL (r0 0 L') ∧ Comes y (r0 0 L) (r0 0 L')) := by
  have desc : (byAge gs).Pairwise fun g h => h.1 < g.1 := by
    have h1 := byAge_sorted gs
    have h2 : (byAge gs).Pairwise fun g h => g.1 ≠ h.1 := by
      have := ((byAge_perm gs).map (·.1)).nodup_iff.mpr F.nd
      rw [List.Nodup, List.pairwise_map] at this
      exact this
    exact (h1.and h2).imp fun h => by omega
  have mem : ∀ g ∈ L', g ∈ gs := fun g m => (byAge_perm gs).mem_iff.mp (sub.subset m)
  have ne : L' ≠ [] := by
    obtain ⟨pre, post, _, rfl⟩ := h
    simp
  have first := settle_first ne fun g m => F.pos g (mem g m)
  have subL : L.Sublist L' := by
    obtain ⟨pre, post, rfl, rfl⟩ := h
    exact (List.Sublist.refl pre).append (List.sublist_cons_self x post)
  have xm : x ∈ L' := by
    obtain ⟨pre, post, _, rfl⟩ := h
    simp
  obtain ⟨E, pE, dE, out⟩ := enters h (desc.sublist sub)
  have inL : ∀ g ∈ E, g ∈ L' := fun g m => by
    rcases List.mem_cons.mp (pE.mem_iff.mp m) with rfl | m
    · exact xm
    · exact subL.subset ((g0_sub L 0).subset m)
  have dE' : (E.map (·.1)).Pairwise (· > ·) := by
    rw [List.pairwise_map]
    exact dE.imp fun h => h
  have nd : (E.map (·.1)).Nodup := dE'.imp fun h => by omega
  have isDown : down (E.map (·.1)) = E.map (·.1) := (down_is (.refl _) (dE'.imp fun h => by omega)).symm
  have pofE : ∀ g ∈ E, pof gs g.1 = g.2 := fun g m => pof_is F.nd (mem g (inL g m))
  refine ⟨E.map (·.1), pE.map _, dE', ?_⟩
  rcases out with ⟨fine, e1, e2⟩ | ⟨i, y, ey, fine, bad, e1, e2⟩
  · refine .inl ⟨?_, by rw [first, e1, e2]⟩
    unfold eldUp
    rw [isDown]
    refine upIn_none fun j a e => ?_
    rw [List.getElem?_map] at e
    obtain ⟨g, eg, rfl⟩ := Option.map_eq_some_iff.mp e
    rw [pofE g (List.mem_of_getElem? eg)]
    exact fine j g eg
  · have ym := List.mem_of_getElem? ey
    refine .inr ⟨y, inL y ym, List.mem_map_of_mem ym, ?_, ?_, e2⟩
    · unfold eldUp
      rw [isDown]
      refine upIn_at (i := i) (by rw [List.getElem?_map, ey]; rfl) (fun j a hj e => ?_) (by rw [pofE y ym]; omega)
      rw [List.getElem?_map] at e
      obtain ⟨g, eg, rfl⟩ := Option.map_eq_some_iff.mp e
      rw [pofE g (List.mem_of_getElem? eg)]
      exact fine j g hj eg
    · rw [first, e1, erase_at nd (by rw [List.getElem?_map, ey]; rfl)]
      congr 1
      exact (map_erase0' (·.1) E i).symm
end El
namespace El
/-- a crowd comes to a first room in which h live -/
def kst (h : Int) (c : Int × Int) : Int := if c.2 + 1 ≤ h then h else if h + c.1 ≤ c.2 + 1 then h + c.1 else c.2 + 1
def stay (cs : List (Int × Int)) (n : Int) : Int := cs.foldl kst n
def Crw (cs : List (Int × Int)) : Prop := ∀ c ∈ cs, 1 ≤ c.1 ∧ 0 ≤ c.2
theorem stay_snoc (cs : List (Int × Int)) (c : Int × Int) (n : Int) : stay (cs ++ [c]) n = kst (stay cs n) c := by
  unfold stay
  rw [List.foldl_append]
  rfl
theorem stay_cat (cs ds : List (Int × Int)) (n : Int) : stay (cs ++ ds) n = stay ds (stay cs n) := by
  unfold stay
  rw [List.foldl_append]
theorem stay_cons (c : Int × Int) (cs : List (Int × Int)) (n : Int) : stay (c :: cs) n = stay cs (kst n c) := rfl
theorem kst_ge (h : Int) (c : Int × Int) (k : 1 ≤ c.1) : h ≤ kst h c := by
  unfold kst
  split
  · omega
  · split <;> omega
/-- one elder more: as many, or one more -/
theorem kst_one (h h' : Int) (c : Int × Int) (k : 1 ≤ c.1) (d : h' = h ∨ h' = h + 1) : kst h' c = kst h c ∨ kst h' c = kst h c + 1 := by
  unfold kst
  split <;> split <;> (try split) <;> (try split) <;> omega
theorem Crw.cons {c : Int × Int} {cs : List (Int × Int)} (h : Crw (c :: cs)) : (1 ≤ c.1 ∧ 0 ≤ c.2) ∧ Crw cs := ⟨h c List.mem_cons_self, fun d m => h d (List.mem_cons_of_mem _ m)⟩
theorem Crw.cat {cs ds : List (Int × Int)} (h : Crw cs) (k : Crw ds) : Crw (cs ++ ds) := fun c m => (List.mem_append.mp m).elim (h c) (k c)
theorem stay_ge : ∀ {cs : List (Int × Int)}, Crw cs → ∀ n, n ≤ stay cs n
  | [], _, n => Int.le_refl _
  | c :: cs, h, n => by
    rw [stay_cons]
    exact Int.le_trans (kst_ge n c h.cons.1.1) (stay_ge h.cons.2 _)
theorem stay_one : ∀ {cs : List (Int × Int)}, Crw cs → ∀ n n', (n' = n ∨ n' = n + 1) → stay cs n' = stay cs n ∨ stay cs n' = stay cs n + 1
  | [], _, n, n', d => d
  | c :: cs, h, n, n', d => by
    rw [stay_cons, stay_cons]
    exact stay_one h.cons.2 _ _ (kst_one n n' c h.cons.1.1 d)
/-- a crowd parted in two -/
theorem kst_part (h : Int) (a b p : Int) (ha : 1 ≤ a) (hb : 1 ≤ b) : kst (kst h (a, p)) (b, p) = kst h (a + b, p) := by
  unfold kst
  dsimp only
  split <;> (try split) <;> (try split) <;> (try split) <;> (try split) <;> omega
end El
namespace El
theorem stay_lt {M : Int} : ∀ {cs : List (Int × Int)}, (∀ c ∈ cs, c.2 + 1 < M) → ∀ n, n < M → stay cs n < M
  | [], _, n, h => h
  | c :: cs, k, n, h => by
    rw [stay_cons]
    refine stay_lt (fun d m => k d (List.mem_cons_of_mem _ m)) _ ?_
    have := k c List.mem_cons_self
    unfold kst
    split
    · omega
    · split <;> omega
theorem kst_0 (h p : Int) : kst h (0, p) = h := by
  unfold kst
  dsimp only
  split
  · rfl
  · split <;> omega
theorem kst_succ (h p : Int) (k : Nat) : kst h (((k + 1 : Nat) : Int), p) = kst h ((k : Int), p) + (if decide (kst h ((k : Int), p) ≤ p) = true then 1 else 0) := by
  by_cases e : kst h ((k : Int), p) ≤ p
  · rw [decide_eq_true e, if_pos rfl]
    unfold kst at e ⊢
    dsimp only at e ⊢
    split <;> (try split) <;> (try split) <;> (try split) <;> (split at e) <;> (try split at e) <;> omega
  · rw [decide_eq_false e, if_neg (by decide), Int.add_zero]
    unfold kst at e ⊢
    dsimp only at e ⊢
    split <;> (try split) <;> (try split) <;> (try split) <;> (split at e) <;> (try split at e) <;> omega
end El
namespace El
open PySem PySem.Spec PyProof.Rows L2
/-! ### a def of the text as callers see it -/
structure Df (P : Program) (w : World) (K : PySem.W.Frag) (mg : Str → Option Value) (base : Heap) (k : Nat) (x : Str) (ps : List Str) (st : Stmt) (sp : Sp) : Prop where
  ex : ∃ (f : Addr) (fd : FuncData), Fun K x x st f fd ∧ mg x = some (.ref f) ∧ FnOk P w K mg base CX0 k f fd ps sp ∧ Binds K fd ps []
/-- where a def stands -/
structure At (K : PySem.W.Frag) (mg : Str → Option Value) (x : Str) (ps : List Str) (st : Stmt) : Prop where
  ex : ∃ (f : Addr) (fd : FuncData), Fun K x x st f fd ∧ mg x = some (.ref f) ∧ Binds K fd ps []
theorem At.df {P : Program} {w : World} {K : PySem.W.Frag} {mg : Str → Option Value} {base : Heap} {k : Nat} {x : Str} {ps : List Str} {st : Stmt} {sp : Sp} (A : At K mg x ps st)
    (h : ∀ f fd, Fun K x x st f fd → FnOk P w K mg base CX0 k f fd ps sp) : Df P w K mg base k x ps st sp := by
  obtain ⟨f, fd, F, m, b⟩ := A.ex
  exact ⟨f, fd, F, m, h f fd F, b⟩
section
variable {X : Cx} {k : Nat} {x : Str} {ps : List Str} {st : Stmt} {sp : Sp} {p pos : Pos} {e : Expr} {es : List Expr} {kws : List Keyword} {t tk : TA}
theorem pe_df (D : Df X.prog X.w X.K X.mg X.base k x ps st sp) (hr : Room k X.A) (hg : Gl X x) (ha : PA X (e :: es) t) (hdb : (x == ("__debug__" : Str)) = false := by decide)
    (he : starEach (e :: es) X.env = (false, eval e X.env) :: starEach es X.env := by rfl) (hpl : (backTo pos (starEach es X.env)).any (·.1) = false := by rfl) : PE X (.Call (.Name x p) (e :: es) [] pos) (tCall sp [] E0 t) := by
  obtain ⟨f, fd, F, m, G, b⟩ := D.ex
  exact pe_call G hr hg m F.kp b .nil pass0 ha hdb he hpl
theorem pe_df0 (D : Df X.prog X.w X.K X.mg X.base k x ps st sp) (hr : Room k X.A) (hg : Gl X x) (hdb : (x == ("__debug__" : Str)) = false := by decide) : PE X (.Call (.Name x p) [] [] pos) (tCall sp [] E0 tNil) := by
  obtain ⟨f, fd, F, m, G, b⟩ := D.ex
  exact pe_call0 G hr hg m F.kp b .nil pass0 hdb
def tCallW (n : Nat) (sp : Sp) (g : List V → List V) (tk : TA) : TE := fun σ H Q => tk σ H fun zs H2 => zs.length = n ∧ sp (g zs) H2 Q E0
/-- f(k = v, ..): keywords alone -/
theorem pe_dfK (D : Df X.prog X.w X.K X.mg X.base k x ps st sp) (ks : List Str) (g : {α : Type} → List α → List α) (hr : Room k X.A) (hg : Gl X x) (hkw : PK X kws tk)
    (hb : ∀ (kV doc pm : Value) (an : Option Addr) (cdv ct : Value) (ws : List Value), ws.length = ks.length → bindArgs (PySem.W.fnOf x x (defArgs st) (defBody st) (defScope st) .none kV doc pm an cdv ct) ⟨[], ks.zip ws⟩ = pure (ps.zip (g ws)))
    (hrel : ∀ {zs : List V} {ws : List Value}, Vals zs ws → Vals (g zs) (g ws))
    (hall : (backToKw pos (keywordEach kws X.env)).all (·.1.isSome) = true := by rfl) (hks : (backToKw pos (keywordEach kws X.env)).filterMap (·.1) = ks := by rfl) (hdb : (x == ("__debug__" : Str)) = false := by decide)
    (hpl : ((backTo pos (starEach [] X.env)).any (·.1) || (backToKw pos (keywordEach kws X.env)).any (·.1.isNone)) = false := by rfl) :
    PE X (.Call (.Name x p) [] kws pos) (tCallW ks.length sp (fun zs => g zs) tk) := by
  obtain ⟨f, fd, F, m, G, b⟩ := D.ex
  have kp := F.kp
  have KB : KBn X.K fd ps 0 ks (fun us ws => us ++ g ws) (fun vs zs => vs ++ g zs) := by
    obtain ⟨oc, od, kV, doc, pm, an, cdv, ct, osl, rfl, lk, hcd⟩ := F.ex
    refine ⟨fun s us ws hK l1 l2 => ?_, fun {vs us zs ws} r rz => Vals.append r (hrel rz)⟩
    obtain rfl := List.eq_nil_of_length_eq_zero l1
    exact .of_eq (hb kV doc pm an cdv ct ws l2)
  refine ⟨fun pins s σ H Q I h => ?_⟩
  refine wpAny_Call_Name_kw (ld_glob I hg m ?_ hdb)
  refine PySem.W.callWith_KW0 (h₀ := X.base) I.ok.mod.kin kp hall ?_ hpl
  refine thn (hkw.run pos pins s σ H _ I h) fun ws s2 ⟨zs, H2, I2, rz, l2, q2⟩ => ⟨I2.kIn, ?_⟩
  rw [hks]
  exact run_fnN (us := []) (vs := []) G hr KB pass0 I2 .nil rz rfl l2 q2
end
theorem Df.at {P : Program} {w : World} {K : PySem.W.Frag} {mg : Str → Option Value} {base : Heap} {k : Nat} {x : Str} {ps : List Str} {st : Stmt} {sp : Sp} {fa : Addr} {fd : FuncData} {oc : Value} {od : Option Addr} {sl : Array (Option Value)}
    (D : Df P w K mg base k x ps st sp) (hf : mg x = some (.ref fa)) (l : K.lookup fa = some ⟨oc, od, .func fd, sl⟩) : FnOk P w K mg base CX0 k fa fd ps sp := by
  obtain ⟨f, fd', F, m, G, b⟩ := D.ex
  obtain rfl : fa = f := by
    have e := hf.symm.trans m
    injection e with e
    injection e
  obtain ⟨oc', od', kV, doc, pm, an, cdv, ct, osl, e1, lk, hcd⟩ := F.ex
  have e := l.symm.trans lk
  injection e with e
  injection e with _ _ e _
  injection e with e
  rw [e]
  exact G
theorem At.mk' {K : PySem.W.Frag} {mg : Str → Option Value} {h : Heap} {x : Str} {ps : List Str} {st : Stmt} {f : Addr} {oc : Value} {od an : Option Addr} {osl : Array (Option Value)} {kV doc pm cdv ct : Value} (X : K.In h) (G : h.Ns mainGlobals mg)
    (a : PySem.W.nsIn K mainGlobals x = some (some (.ref f))) (l : K.lookup f = some ⟨oc, od, .func (PySem.W.fnOf x x (defArgs st) (defBody st) (defScope st) .none kV doc pm an cdv ct), osl⟩)
    (c : PySem.W.codeIn K cdv x = true) (k : PySem.W.keepIn K (.ref f) = true)
    (b : ∀ (kV doc pm : Value) (an : Option Addr) (cdv ct : Value) (us : List Value), us.length = ps.length → bindArgs (PySem.W.fnOf x x (defArgs st) (defBody st) (defScope st) .none kV doc pm an cdv ct) ⟨us, []⟩ = pure (ps.zip us)) : At K mg x ps st :=
  have F := fun_mk (st := st) l c k
  ⟨f, _, F, PySem.W.mg_of X G a, F.binds b⟩
end El
namespace El
open PySem PySem.Spec PyProof.Rows L2
section
variable {X : Cx}
/-! sorted(..., reverse=b) of anything whose walk is known -/
/-- partners: each pair is something of ours and the value that stands for it -/
abbrev Partners (P : List (V × Value)) : Prop := ∀ p ∈ P, RelV p.1 p.2
theorem partners_of : ∀ {xs : List V} {us : List Value}, Vals xs us → ∃ P, Partners P ∧ P.map Prod.fst = xs ∧ P.map Prod.snd = us
  | _, _, .nil => ⟨[], fun _ m => (List.not_mem_nil m).elim, rfl, rfl⟩
  | _, _, .cons h t =>
    let ⟨P, hP, e1, e2⟩ := partners_of t
    ⟨(_, _) :: P, fun p m => (List.mem_cons.mp m).elim (fun e => e ▸ h) (hP p), congrArg _ e1, congrArg _ e2⟩
theorem Partners.vals : ∀ {P : List (V × Value)}, Partners P → Vals (P.map Prod.fst) (P.map Prod.snd)
  | [], _ => .nil
  | _ :: _, h => .cons (h _ (.head _)) (Partners.vals fun p m => h p (.tail _ m))
/-- the values in another order: the partners go along -/
theorem go_along {α β : Type} {f : α → β} {ys : List β} : ∀ {P : List α}, ys.Perm (P.map f) → ∃ P' : List α, P'.Perm P ∧ P'.map f = ys := by
  suffices key : ∀ {as bs : List β}, as.Perm bs → ∀ P : List α, P.map f = as → ∃ P' : List α, P'.Perm P ∧ P'.map f = bs from
    fun {P} h => key h.symm P rfl
  intro as bs h
  induction h with
  | nil => exact fun P e => ⟨P, .refl _, e⟩
  | cons x _ ih =>
    intro P e
    match P, e with
    | q :: P, e =>
      obtain ⟨P', hp, e'⟩ := ih P (List.cons.inj e).2
      exact ⟨q :: P', hp.cons q, by rw [List.map_cons, e', (List.cons.inj e).1]⟩
  | swap x y l =>
    intro P e
    match P, e with
    | q :: r :: P, e => exact ⟨r :: q :: P, .swap .., by
        have e1 := List.cons.inj e
        have e2 := List.cons.inj e1.2
        rw [List.map_cons, List.map_cons, e1.1, e2.1, e2.2]⟩
  | trans _ _ ih1 ih2 =>
    intro P e
    obtain ⟨P1, h1, e1⟩ := ih1 P e
    obtain ⟨P2, h2, e2⟩ := ih2 P1 e1
    exact ⟨P2, h2.trans h1, e2⟩
/-- forwards or backwards -/
abbrev turn {α : Type} (b : Bool) (l : List α) : List α := if b = true then l.reverse else l
theorem turn_map {α β : Type} (f : α → β) (l : List α) : ∀ b, (turn b l).map f = turn b (l.map f)
  | true => List.map_reverse ..
  | false => rfl
theorem turn_perm {α : Type} (l : List α) : ∀ b, (turn b l).Perm l
  | true => l.reverse_perm
  | false => .refl _
theorem turn_arr {α : Type} (l : List α) : ∀ b : Bool, (if b = true then l.toArray.reverse else l.toArray) = (turn b l).toArray
  | true => List.reverse_toArray ..
  | false => rfl
/-- the walk over v gathers what stands for xs, and nothing that lay there is touched -/
def Gathers (X : Cx) (s : Shared) (v : Value) (xs : List V) : Prop :=
  ∀ R : List Value → Shared → Prop, (∀ us h t, Vals xs us → (∀ b o, s.heap.get? b = some o → h.get? b = some o) → R us { s with heap := h, toks := t }) → wpAny (model X.prog X.w) X.A.in1 (collect v) R X.xe s
theorem sorted_gathered {pins : List (Addr × Obj)} {σ : L2.St} {H : Hp} {s : Shared} {Q : VK} {b : Bool} {v : Value} {xs : List V} {less : Value → Value → Bool}
    (I : Inv X pins σ H s) (few : xs.length ≤ sizeLine) (walk : Gathers X s v xs) (O : SrtO.Swo less)
    (able : ∀ (us : List Value) (s' : Shared) (l : Addr), 2 ≤ us.length → Vals xs us → Inv X pins σ (upd H l (.lst xs)) s' → H l = none → SrtO.SortableO X.prog X.w X.A.in1.in1 s' l us less)
    (q : ∀ (P : List (V × Value)) (l : Addr), Partners P → (P.map Prod.fst).Perm xs → SrtO.Srtd less (P.map Prod.snd) → H l = none → Q (.ref l) (upd H l (.lst (turn b (P.map Prod.fst))))) :
    wpAny (model X.prog X.w) X.A (call (.builtin "sorted") [v] [(Str.ofString "reverse", .bool b)]) (EP X pins σ Q) X.xe s := by
  refine call_function_entry_kw kind_sorted plain_sorted entry_sorted (args_sorted_rev v (.bool b)) ?_
  refine wpAny_bind (m := checkCount "sorted" 1 1 _) (wpAny_pure ?_)
  refine wpAny_bind (walk _ fun us h t for_xs grown => ?_)
  have n2 : us.length ≤ sizeLine := for_xs.length ▸ few
  refine wpAny_bind (wpAny_newList (wpAny_bind (wpAny_holding ?_)) n2)
  -- the new list lies there, and is ours
  generalize hl : ({ s with heap := h, toks := t } : Shared).heap.objs.size = l
  have hl' : h.objs.size = l := hl
  have at_l : (h.push (seqObj "list" us.toArray 0)).get? l = some (seqObj "list" us.toArray 0) := hl' ▸ Heap.get?_push_size _ rfl
  have free : H l = none := hl' ▸ (I.kept (t' := t) grown).hok.fresh (Nat.le_refl _)
  have J : Inv X pins σ (upd H l (.lst xs)) { s with heap := h.push (seqObj "list" us.toArray 0), toks := t } :=
    (I.kept (t' := t) grown).laid (t' := t) (fun _ _ => Heap.get?_push_of_some _) (Nat.le_of_eq hl) ⟨few, _, 0, for_xs, at_l⟩
  -- it is sorted where it lies
  refine PyProof.Rows.wpAny_call_entry_kw slot_list_sort ⟨_, at_l, rfl⟩ entry_list_sort ?_ (args_list_sort_rev _ (.bool b))
  refine SrtR.list_sort_ordR O at_l n2 (fun two => able us _ l two for_xs J free) fun out up same => ⟨_, rfl, wpAny_pure ⟨_, rfl, ?_⟩⟩
  obtain ⟨P0, hP0, rfl, rfl⟩ := partners_of for_xs
  obtain ⟨P, p1, rfl⟩ := go_along (same.perm.trans (turn_perm (P0.map Prod.snd) b))
  rw [turn_arr]
  obtain ⟨e, he⟩ := sortedHeap_at (out := (turn b (P.map Prod.snd)).toArray) at_l
  have hP : Partners P := fun p m => hP0 p (p1.mem_iff.mp m)
  have ends : Partners (turn b P) := fun p m => hP p ((turn_perm P b).mem_iff.mp m)
  have done := J.write (o := .lst (turn b (P.map Prod.fst))) (t' := t) (h' := sortedHeap (h.push (seqObj "list" (P0.map Prod.snd).toArray 0)) l (P0.map Prod.snd) (turn b (P.map Prod.snd)).toArray)
    (by rw [upd_same]; trivial) (.inl rfl) (fun c u away there => (sortedHeap_old away (Heap.lt_size there)).trans there) ⟨_, he⟩
    ⟨by rw [((turn_perm _ b).trans (p1.map _)).length_eq]; exact few, _, e, by rw [← turn_map, ← turn_map]; exact ends.vals, he⟩
  rw [upd_upd] at done
  exact ⟨.ref l, _, done, rfl, q P l hP (p1.map _) up free⟩
/-- the walk over a dict: its keys -/
theorem gathers_dict {pins : List (Addr × Obj)} {σ : L2.St} {H : Hp} {s : Shared} {a : Addr} {kvs : List (L2.Key × V)} (calm : X.calm = true) (I : Inv X pins σ H s) (d : Rd H a (.dK kvs)) :
    kvs.length ≤ sizeLine ∧ Gathers X s (.ref a) (kvs.map fun e => kV e.1) := by
  have ⟨few, own, es, same, lies⟩ := dk_rd I.hok d
  have ⟨ep, lies⟩ := lies.dictAt
  have keys : (kvs.map fun e => kV e.1) = es.map fun e => kV e.1 := by
    have h := congrArg (List.map kV) same.keys
    rw [List.map_map, List.map_map] at h
    exact h
  refine ⟨few, fun R go => ?_⟩
  rw [keys] at go
  exact PySem.W.kdu_collect (PySem.W.kdl_dict (knd := mixKind X.prog X.w) own) (I.ok.hd calm) lies (same.length ▸ few)
    fun h t got grown is => go _ h t (keys_at (by simpa using is.1) fun j v at_j => is.2 j v (by simpa using at_j)) grown
theorem ints_back {us : List Value} {ns : List Int} (h : IntsAre us ns) : us.map SrtO.iv = ns := by
  induction h with
  | nil => rfl
  | cons n t _ ih => exact congrArg (n :: ·) ih
/-- sorted(d, reverse=b) of a dict whose keys are ints -/
def rSortedRevD (b : Bool) : List V → List V → Hp → VK → Prop := fun vs zs H Q => ∃ (a : Addr) (kvs : List (L2.Key × V)) (ks : List Int), vs = [V.ref a] ∧ zs = [.bl b] ∧ Rd H a (.dK kvs) ∧ kvs.map (·.1) = ks.map Sum.inl ∧
  ∀ (ns' : List Int) (p : Addr), ns'.Perm ks → OrdB b ns' → H p = none → Q (.ref p) (upd H p (.lst (ns'.map V.int)))
theorem cr_sortedRevD {b : Bool} (calm : X.calm = true) : CallRK X (.builtin "sorted") [Str.ofString "reverse"] (rSortedRevD b) := by
  rintro pins s σ H _ _ us ws Q I one by_kw ⟨a, kvs, ks, rfl, rfl, d, hks, q⟩
  obtain ⟨v, w, rfl, rfl, rfl, rfl⟩ : ∃ v w, us = [v] ∧ ws = [w] ∧ v = .ref a ∧ w = .bool b := by
    cases one with | cons e1 t1 => cases t1; cases by_kw with | cons e2 t2 => cases t2; exact ⟨_, _, rfl, rfl, e1, e2⟩
  have keys : (kvs.map fun e => kV e.1) = ks.map V.int := by
    have h := congrArg (List.map kV) hks
    rw [List.map_map, List.map_map] at h
    exact h
  have ⟨few, walk⟩ := gathers_dict calm I d
  rw [keys] at walk
  refine sorted_gathered I (by rw [← keys, List.length_map]; exact few) walk SrtO.swo_int (fun us _ _ two r _ _ => SrtO.ints_sortable r.ints two) fun P l hP perm up free => ?_
  obtain ⟨ns, np, en⟩ := go_along perm
  have back := ints_back (Vals.ints (en ▸ hP.vals))
  rw [← en, ← turn_map]
  refine q _ l ((turn_perm ns b).trans np) ?_ free
  have rise : ns.Pairwise (· ≤ ·) := by
    rw [← back, List.pairwise_map]
    exact up.imp fun h => Int.not_lt.mp (of_decide_eq_false h)
  cases b with
  | false => exact rise
  | true => exact List.pairwise_reverse.mpr rise
end
end El
namespace El
open PySem PySem.Spec PyProof.Rows L2
/-! ### heaps -/
/-- what B names stays as it was -/
def Kp (B : Addr → Prop) (H H' : Hp) : Prop := ∀ b o, B b → H b = some o → H' b = some o
theorem Kp.refl {B : Addr → Prop} {H : Hp} : Kp B H H := fun _ _ _ e => e
theorem Kp.trans {B : Addr → Prop} {H H1 H2 : Hp} (h : Kp B H H1) (k : Kp B H1 H2) : Kp B H H2 := fun b o hb e => k b o hb (h b o hb e)
theorem Kp.of {B : Addr → Prop} {H H' : Hp} (h : Same H H') : Kp B H H' := fun b o _ e => h b o e
theorem Kp.same {H H' : Hp} (h : Kp (fun _ => True) H H') : Same H H' := fun b o e => h b o trivial e
theorem same_new {H : Hp} {p : Addr} {o : HO} (h : H p = none) : Same H (upd H p o) := fun b u e => by
  rw [upd_ne (ne_of_none e h)]
  exact e
theorem Same.mut {H H' : Hp} {p : Addr} {o : HO} (e : Same H H') (h : H p = none) : Same H (upd H' p o) := fun b u q => by
  rw [upd_ne (ne_of_none q h)]
  exact e b u q
theorem Kp.mut {B : Addr → Prop} {H H' : Hp} {p : Addr} {o : HO} (e : Kp B H H') (h : ¬ B p) : Kp B H (upd H' p o) := fun b u hb q => by
  have n : b ≠ p := fun z => h (z ▸ hb)
  rw [upd_ne n]
  exact e b u hb q
theorem Kp.new {B : Addr → Prop} {H H' : Hp} {p : Addr} {o : HO} (e : Kp B H H') (h : H' p = none) : Kp B H (upd H' p o) := e.trans (Kp.of (same_new h))
theorem Kp.mutF {B : Addr → Prop} {H H' : Hp} {p : Addr} {o : HO} (e : Kp B H H') (h : H p = none) : Kp B H (upd H' p o) := fun b u hb q => by
  rw [upd_ne (ne_of_none q h)]
  exact e b u hb q
theorem Kp.none {B : Addr → Prop} {H H' : Hp} (e : Kp B H H') {p : Addr} (hb : B p) (h : H' p = none) : H p = none := by
  cases z : H p with
  | none => rfl
  | some x =>
    have := e _ _ hb z
    rw [h] at this
    cases this
theorem no_of {H : Hp} {a p : Addr} {o : HO} (h : H a = some o) (hp : H p = none) : p ≠ a := fun z => by
  rw [z, h] at hp
  cases hp
theorem same_none {H H' : Hp} (e : Same H H') {p : Addr} (h : H' p = none) : H p = none := e.free h
theorem ils {n : Nat} (h : n ≤ 100000) : n < sizeLine := Nat.lt_of_le_of_lt h (by decide)
theorem ile {n : Nat} (h : n ≤ 100000) : n ≤ sizeLine := Nat.le_of_lt (ils h)
theorem ints_at {ns : List Int} {i : Nat} {x : V} (h : (ns.map V.int)[i]? = some x) : ∃ n, ns[i]? = some n ∧ x = .int n := by
  rw [List.getElem?_map] at h
  cases e : ns[i]? with
  | none => rw [e] at h; cases h
  | some n => rw [e] at h; exact ⟨n, rfl, (Option.some.inj h).symm⟩
theorem refs_at {ts : List Addr} {i : Nat} {x : V} (h : (ts.map V.ref)[i]? = some x) : ∃ t, ts[i]? = some t ∧ x = .ref t := by
  rw [List.getElem?_map] at h
  cases e : ts[i]? with
  | none => rw [e] at h; cases h
  | some t => rw [e] at h; exact ⟨t, rfl, (Option.some.inj h).symm⟩
theorem at_lt {α : Type} {l : List α} {i : Nat} {x : α} (h : l[i]? = some x) : i < l.length := (List.getElem?_eq_some_iff.mp h).1
theorem at_some {α : Type} {l : List α} {i : Nat} (h : i < l.length) : ∃ x, l[i]? = some x := ⟨l[i], List.getElem?_eq_getElem h⟩
theorem take_snoc {α : Type} {l : List α} {i : Nat} {x : α} (h : l[i]? = some x) : l.take (i + 1) = l.take i ++ [x] := by
  rw [List.take_add_one, h]
  rfl
theorem take_full {α : Type} (l : List α) : l.take l.length = l := List.take_length
/-! ### a list of pairs of ints -/
structure GsAt (H : Hp) (B : Addr → Prop) (a : Addr) (ts : List Addr) (gs : List (Int × Int)) : Prop where
  top : H a = some (.lst (ts.map V.ref))
  ba : B a
  len : ts.length = gs.length
  at' : ∀ (i : Nat) (t : Addr) (g : Int × Int), ts[i]? = some t → gs[i]? = some g → H t = some (.tup [.int g.1, .int g.2])
  b : ∀ t ∈ ts, B t
theorem GsAt.keep {H H' : Hp} {B : Addr → Prop} {a : Addr} {ts : List Addr} {gs : List (Int × Int)} (h : GsAt H B a ts gs) (k : Kp B H H') : GsAt H' B a ts gs :=
  ⟨k _ _ h.ba h.top, h.ba, h.len, fun i t g e f => k _ _ (h.b t (List.mem_of_getElem? e)) (h.at' i t g e f), h.b⟩
theorem GsAt.same {H H' : Hp} {B : Addr → Prop} {a : Addr} {ts : List Addr} {gs : List (Int × Int)} (h : GsAt H B a ts gs) (k : Same H H') : GsAt H' B a ts gs := h.keep (.of k)
theorem GsAt.weaken {H : Hp} {B B' : Addr → Prop} {a : Addr} {ts : List Addr} {gs : List (Int × Int)} (h : GsAt H B a ts gs) (k : ∀ b, B b → B' b) : GsAt H B' a ts gs :=
  ⟨h.top, k _ h.ba, h.len, h.at', fun t m => k _ (h.b t m)⟩
theorem GsAt.seq {K : PySem.W.Frag} {H : Hp} {B : Addr → Prop} {a : Addr} {ts : List Addr} {gs : List (Int × Int)} (h : GsAt H B a ts gs) : SqL K H a (ts.map V.ref) := SqL.of h.top
theorem GsAt.get {H : Hp} {B : Addr → Prop} {a : Addr} {ts : List Addr} {gs : List (Int × Int)} (h : GsAt H B a ts gs) {i : Nat} {x : V} (e : (ts.map V.ref)[i]? = some x) : ∃ t g, x = .ref t ∧ gs[i]? = some g ∧ H t = some (.tup [.int g.1, .int g.2]) := by
  obtain ⟨t, e1, rfl⟩ := refs_at e
  have hi := at_lt e1
  rw [h.len] at hi
  obtain ⟨g, e2⟩ := at_some hi
  exact ⟨t, g, rfl, e2, h.at' i t g e1 e2⟩
/-- pushed -/
theorem GsAt.push {H : Hp} {B : Addr → Prop} {a : Addr} {ts : List Addr} {gs : List (Int × Int)} (h : GsAt H B a ts gs) (hn : a ∉ ts) {q : Addr} {g : Int × Int} (e : H q = some (.tup [.int g.1, .int g.2])) (bq : B q) :
    GsAt (upd H a (.lst (ts.map V.ref ++ [.ref q]))) B a (ts ++ [q]) (gs ++ [g]) := by
  refine ⟨?_, h.ba, ?_, fun i t x e1 e2 => ?_, fun t m => ?_⟩
  · rw [upd_same, List.map_append]
    rfl
  · rw [List.length_append, List.length_append, h.len]
    rfl
  · have nq : q ≠ a := fun z => by
      rw [z, h.top] at e
      cases e
    by_cases hi : i < ts.length
    · rw [List.getElem?_append_left hi] at e1
      rw [List.getElem?_append_left (by rw [← h.len]; exact hi)] at e2
      have nt : t ≠ a := fun z => hn (z ▸ List.mem_of_getElem? e1)
      rw [upd_ne nt]
      exact h.at' i t x e1 e2
    · have hi' : i = ts.length := by
        have := at_lt e1
        rw [List.length_append, List.length_singleton] at this
        omega
      subst hi'
      rw [List.getElem?_append_right (Nat.le_refl _), Nat.sub_self] at e1
      rw [h.len, List.getElem?_append_right (Nat.le_refl _), Nat.sub_self] at e2
      have e1' : q = t := Option.some.inj e1
      have e2' : g = x := Option.some.inj e2
      subst e1' e2'
      rw [upd_ne nq]
      exact e
  · rcases List.mem_append.mp m with m | m
    · exact h.b t m
    · rw [List.mem_singleton.mp m]
      exact bq
theorem GsAt.there {H : Hp} {B : Addr → Prop} {a : Addr} {ts : List Addr} {gs : List (Int × Int)} (h : GsAt H B a ts gs) : ∀ b, (b = a ∨ b ∈ ts) → ∃ x, H b = some x := fun b m => by
  rcases m with rfl | m
  · exact ⟨_, h.top⟩
  · obtain ⟨i, e⟩ := List.mem_iff_getElem?.mp m
    have hl := at_lt e
    rw [h.len] at hl
    obtain ⟨g, eg⟩ := at_some hl
    exact ⟨_, h.at' i b g e eg⟩
theorem GsAt.reB {H : Hp} {B B' : Addr → Prop} {a : Addr} {ts : List Addr} {gs : List (Int × Int)} (h : GsAt H B a ts gs) (k : ∀ b, (b = a ∨ b ∈ ts) → B b → B' b) : GsAt H B' a ts gs :=
  ⟨h.top, k _ (.inl rfl) h.ba, h.len, h.at', fun t m => k _ (.inr m) (h.b t m)⟩
/-- what stands in H and is named by B -/
def Liv (H : Hp) (B : Addr → Prop) (b : Addr) : Prop := (∃ x, H b = some x) ∧ B b
theorem GsAt.liv {H : Hp} {B : Addr → Prop} {a : Addr} {ts : List Addr} {gs : List (Int × Int)} (h : GsAt H B a ts gs) : GsAt H (Liv H B) a ts gs := h.reB fun b m hb => ⟨h.there b m, hb⟩
theorem Liv.no {H : Hp} {B : Addr → Prop} {p : Addr} (h : H p = none) : ¬ Liv H B p := fun ⟨⟨x, e⟩, _⟩ => by
  rw [h] at e
  cases e
theorem Liv.of {H : Hp} {B : Addr → Prop} {p : Addr} {o : HO} (h : H p = some o) (b : B p) : Liv H B p := ⟨⟨o, h⟩, b⟩
theorem Kp.weak {B B' : Addr → Prop} {H H' : Hp} (k : Kp B H H') (h : ∀ b, B' b → B b) : Kp B' H H' := fun b o hb e => k b o (h b hb) e
theorem Kp.liv {B : Addr → Prop} {H0 H H' : Hp} (k : Kp B H H') : Kp (Liv H0 B) H H' := k.weak fun _ h => h.2
/-! ### a list of lists of ints, each its own -/
structure RmsAt (H : Hp) (B : Addr → Prop) (o : Addr) (ts : List Addr) (rs : List (List Int)) : Prop where
  top : H o = some (.lst (ts.map V.ref))
  bo : B o
  nd : ts.Nodup
  no : o ∉ ts
  len : ts.length = rs.length
  at' : ∀ (i : Nat) (t : Addr) (r : List Int), ts[i]? = some t → rs[i]? = some r → H t = some (.lst (r.map V.int))
  b : ∀ t ∈ ts, B t
theorem RmsAt.keep {H H' : Hp} {B : Addr → Prop} {a : Addr} {ts : List Addr} {rs : List (List Int)} (h : RmsAt H B a ts rs) (k : Kp B H H') : RmsAt H' B a ts rs :=
  ⟨k _ _ h.bo h.top, h.bo, h.nd, h.no, h.len, fun i t g e f => k _ _ (h.b t (List.mem_of_getElem? e)) (h.at' i t g e f), h.b⟩
theorem RmsAt.same {H H' : Hp} {B : Addr → Prop} {a : Addr} {ts : List Addr} {rs : List (List Int)} (h : RmsAt H B a ts rs) (k : Same H H') : RmsAt H' B a ts rs := h.keep (.of k)
theorem RmsAt.weaken {H : Hp} {B B' : Addr → Prop} {a : Addr} {ts : List Addr} {rs : List (List Int)} (h : RmsAt H B a ts rs) (k : ∀ b, B b → B' b) : RmsAt H B' a ts rs :=
  ⟨h.top, k _ h.bo, h.nd, h.no, h.len, h.at', fun t m => k _ (h.b t m)⟩
theorem RmsAt.seq {K : PySem.W.Frag} {H : Hp} {B : Addr → Prop} {a : Addr} {ts : List Addr} {rs : List (List Int)} (h : RmsAt H B a ts rs) : SqL K H a (ts.map V.ref) := SqL.of h.top
theorem RmsAt.get {H : Hp} {B : Addr → Prop} {a : Addr} {ts : List Addr} {rs : List (List Int)} (h : RmsAt H B a ts rs) {i : Nat} {x : V} (e : (ts.map V.ref)[i]? = some x) : ∃ t r, x = .ref t ∧ ts[i]? = some t ∧ rs[i]? = some r ∧ H t = some (.lst (r.map V.int)) := by
  obtain ⟨t, e1, rfl⟩ := refs_at e
  have hi := at_lt e1
  rw [h.len] at hi
  obtain ⟨g, e2⟩ := at_some hi
  exact ⟨t, g, rfl, e1, e2, h.at' i t g e1 e2⟩
theorem RmsAt.of {H : Hp} {B : Addr → Prop} {a : Addr} {ts : List Addr} {rs : List (List Int)} (h : RmsAt H B a ts rs) {i : Nat} {r : List Int} (e : rs[i]? = some r) : ∃ t, ts[i]? = some t ∧ H t = some (.lst (r.map V.int)) := by
  have hi := at_lt e
  rw [← h.len] at hi
  obtain ⟨t, e2⟩ := at_some hi
  exact ⟨t, e2, h.at' i t r e2 e⟩
theorem RmsAt.nil {H : Hp} {B : Addr → Prop} {o : Addr} (h : H o = some (.lst [])) (bo : B o) : RmsAt H B o [] [] :=
  ⟨h, bo, List.nodup_nil, by simp, rfl, fun i t r e _ => by simp at e, fun t m => by simp at m⟩
/-- a new empty list behind -/
theorem RmsAt.push {H : Hp} {B : Addr → Prop} {o : Addr} {ts : List Addr} {rs : List (List Int)} (h : RmsAt H B o ts rs) {q : Addr} {r : List Int} (hq : H q = none) (bq : B q) :
    RmsAt (upd (upd H q (.lst (r.map V.int))) o (.lst (ts.map V.ref ++ [.ref q]))) B o (ts ++ [q]) (rs ++ [r]) := by
  have nq : q ≠ o := no_of h.top hq
  have nqt : ∀ t ∈ ts, q ≠ t := fun t m => by
    obtain ⟨i, hi⟩ := List.mem_iff_getElem?.mp m
    have hl := at_lt hi
    rw [h.len] at hl
    obtain ⟨r', er⟩ := at_some hl
    exact no_of (h.at' i t r' hi er) hq
  refine ⟨?_, h.bo, ?_, ?_, ?_, fun i t x e1 e2 => ?_, fun t m => ?_⟩
  · rw [upd_same, List.map_append]
    rfl
  · rw [List.nodup_append]
    exact ⟨h.nd, by simp, fun a ha b hb => by
      rw [List.mem_singleton.mp hb]
      exact (nqt a ha).symm⟩
  · intro m
    rcases List.mem_append.mp m with m | m
    · exact h.no m
    · exact nq (List.mem_singleton.mp m).symm
  · rw [List.length_append, List.length_append, h.len]
    rfl
  · by_cases hi : i < ts.length
    · rw [List.getElem?_append_left hi] at e1
      rw [List.getElem?_append_left (by rw [← h.len]; exact hi)] at e2
      have nt : t ≠ o := fun z => h.no (z ▸ List.mem_of_getElem? e1)
      rw [upd_ne nt, upd_ne (nqt t (List.mem_of_getElem? e1)).symm]
      exact h.at' i t x e1 e2
    · have hi' : i = ts.length := by
        have := at_lt e1
        rw [List.length_append, List.length_singleton] at this
        omega
      subst hi'
      rw [List.getElem?_append_right (Nat.le_refl _), Nat.sub_self] at e1
      rw [h.len, List.getElem?_append_right (Nat.le_refl _), Nat.sub_self] at e2
      have e1' : q = t := Option.some.inj e1
      have e2' : r = x := Option.some.inj e2
      subst e1' e2'
      rw [upd_ne nq, upd_same]
  · rcases List.mem_append.mp m with m | m
    · exact h.b t m
    · rw [List.mem_singleton.mp m]
      exact bq
/-- one of them changed -/
theorem RmsAt.set {H : Hp} {B : Addr → Prop} {o : Addr} {ts : List Addr} {rs : List (List Int)} (h : RmsAt H B o ts rs) {i : Nat} {t : Addr} (e : ts[i]? = some t) (r : List Int) :
    RmsAt (upd H t (.lst (r.map V.int))) B o ts (rs.set i r) := by
  have nt : t ≠ o := fun z => h.no (z ▸ List.mem_of_getElem? e)
  refine ⟨?_, h.bo, h.nd, h.no, ?_, fun j u x e1 e2 => ?_, h.b⟩
  · rw [upd_ne nt.symm]
    exact h.top
  · rw [List.length_set]
    exact h.len
  · by_cases hj : j = i
    · subst hj
      have e' : u = t := Option.some.inj (e1.symm.trans e)
      subst e'
      rw [upd_same]
      have hl := at_lt e1
      rw [h.len] at hl
      rw [List.getElem?_set_self hl] at e2
      have : r = x := Option.some.inj e2
      rw [this]
    · rw [List.getElem?_set_ne (fun z => hj z.symm)] at e2
      have hut : u ≠ t := fun z => by
        subst z
        exact hj (nd_ix h.nd e1 e)
      rw [upd_ne hut]
      exact h.at' j u x e1 e2
theorem RmsAt.newTop {H H' : Hp} {B B' : Addr → Prop} {o : Addr} {ts : List Addr} {rs : List (List Int)} (h : RmsAt H B o ts rs) (k : ∀ b u, (b = o ∨ b ∈ ts) → H b = some u → H' b = some u) (kb : ∀ b, (b = o ∨ b ∈ ts) → B' b) : RmsAt H' B' o ts rs :=
  ⟨k _ _ (.inl rfl) h.top, kb _ (.inl rfl), h.nd, h.no, h.len, fun i t r e f => k _ _ (.inr (List.mem_of_getElem? e)) (h.at' i t r e f), fun t m => kb t (.inr m)⟩
/-! ### the dict of patience -/
def pks (gs : List (Int × Int)) : List (L2.Key × V) := gs.map fun g => (Sum.inl g.1, V.int g.2)
theorem pks_len (gs : List (Int × Int)) : (pks gs).length = gs.length := List.length_map _
theorem pks_keys (gs : List (Int × Int)) : (pks gs).map (·.1) = (gs.map (·.1)).map Sum.inl := by
  unfold pks
  rw [List.map_map, List.map_map]
  rfl
theorem pks_snoc (gs : List (Int × Int)) (g : Int × Int) : pks (gs ++ [g]) = pks gs ++ [(Sum.inl g.1, V.int g.2)] := List.map_append
theorem pks_none {gs : List (Int × Int)} {a : Int} (h : a ∉ gs.map (·.1)) : valV (pks gs) (Sum.inl a) = none := by
  induction gs with
  | nil => rfl
  | cons g gs ih =>
    have h' : ¬ (a = g.1 ∨ a ∈ gs.map (·.1)) := fun z => h (by rw [List.map_cons]; exact List.mem_cons.mpr z)
    have n : ¬ (Sum.inl g.1 : L2.Key) = Sum.inl a := fun z => h' (.inl (Sum.inl.inj z).symm)
    show valV ((Sum.inl g.1, V.int g.2) :: pks gs) (Sum.inl a) = none
    rw [valV_neg n]
    exact ih fun z => h' (.inr z)
theorem pks_some : ∀ {gs : List (Int × Int)} {g : Int × Int}, (gs.map (·.1)).Nodup → g ∈ gs → valV (pks gs) (Sum.inl g.1) = some (.int g.2)
  | x :: gs, g, nd, h => by
    have nd' : (x.1 :: gs.map (·.1)).Nodup := nd
    obtain ⟨n1, n2⟩ := List.nodup_cons.mp nd'
    show valV ((Sum.inl x.1, V.int x.2) :: pks gs) (Sum.inl g.1) = some (.int g.2)
    rcases List.mem_cons.mp h with e | h
    · subst e
      rw [valV_pos rfl]
    · have n : ¬ (Sum.inl x.1 : L2.Key) = Sum.inl g.1 := fun z => n1 (by
        rw [Sum.inl.inj z]
        exact List.mem_map.mpr ⟨g, h, rfl⟩)
      rw [valV_neg n]
      exact pks_some n2 h
theorem putK_snoc {gs : List (Int × Int)} {g : Int × Int} (h : g.1 ∉ gs.map (·.1)) : putK (pks gs) (Sum.inl g.1) (V.int g.2) = pks (gs ++ [g]) := by
  rw [putK_new _ (pks_none h), pks_snoc]
theorem Fit.take_no {gs : List (Int × Int)} (f : Fit gs) {i : Nat} {g : Int × Int} (h : gs[i]? = some g) : g.1 ∉ (gs.take i).map (·.1) := by
  intro m
  have e : gs = gs.take i ++ g :: gs.drop (i + 1) := by
    have hl := at_lt h
    have e2 : gs[i] = g := by
      rw [List.getElem?_eq_getElem hl] at h
      exact Option.some.inj h
    rw [← e2, List.getElem_cons_drop, List.take_append_drop]
  have nd := f.nd
  rw [e, List.map_append, List.nodup_append] at nd
  exact nd.2.2 _ m g.1 (by rw [List.map_cons]; exact List.mem_cons_self) rfl
/-! ### rules by a written part that is named (for what stands in a comprehension) -/
section
variable {X : Cx}
theorem lenK (K : PySem.W.Frag) (e : X.K = K := by rfl) : CallR X (.builtin "len") (fun xs H Q => ∃ p ys, xs = [.ref p] ∧ (SqL K H p ys ∨ SqT K H p ys) ∧ Q (.int ys.length) H) := by
  subst e
  exact call_len_seq
theorem ixlK (K : PySem.W.Frag) (e : X.K = K := by rfl) : IxR X (rIxL K) := by
  subst e
  exact ix_list
theorem ixtK (K : PySem.W.Frag) (e : X.K = K := by rfl) : IxR X (rIxT K) := by
  subst e
  exact ix_tup
theorem sllK (K : PySem.W.Frag) (e : X.K = K := by rfl) : SlR X (rSlL K) := by
  subst e
  exact sl_list
theorem eqDK (K : PySem.W.Frag) (hu : X.A.units + 64 < cLine) (e : X.K = K := by rfl) : OpR X (compareOp .Eq) (rEqD K) := by
  subst e
  exact op_eqD hu
theorem neDK (K : PySem.W.Frag) (hu : X.A.units + 64 < cLine) (e : X.K = K := by rfl) : OpR X (compareOp .NotEq) (rNeD K) := by
  subst e
  exact op_neD hu
theorem isiK (K : PySem.W.Frag) (e : X.K = K := by rfl) : CallR X (.builtin "isinstance") (rIsi K) := by
  subst e
  exact call_isi
theorem sumK (K : PySem.W.Frag) (hc : X.calm = true) (e : X.K = K := by rfl) : CallR X (.builtin "sum") (rSum K) := by
  subst e
  exact cr_sum hc
theorem inK (K : PySem.W.Frag) (e : X.K = K := by rfl) : OpR X (compareOp .In) (rIn K false) := by
  subst e
  exact op_in_seq
theorem notInK (K : PySem.W.Frag) (e : X.K = K := by rfl) : OpR X (compareOp .NotIn) (rIn K true) := by
  subst e
  exact op_notIn_seq
theorem listOfK (K : PySem.W.Frag) (e : X.K = K := by rfl) : CallR X (.type "list") (fun xs H Q => ∃ p ys, xs = [.ref p] ∧ (SqL K H p ys ∨ SqT K H p ys) ∧ ∀ l, H l = none → Q (.ref l) (upd H l (.lst ys))) := by
  subst e
  exact call_list_of
theorem pgTupK {es : List Expr} {k : Nat} {t : TGs} {pos : Pos} (K : PySem.W.Frag) (n : Nat) (hc : X.calm = true) (h : PGs X es t)
    (hn : (assignEach es X.env).length = n := by rfl) (hst : (assignEach es X.env).findIdx? (·.1) = none := by rfl) (e : X.K = K := by rfl) : PG X (.Tuple es k pos) (gTup K n t) := by
  subst e
  exact pg_tup hc h hn hst
theorem bmK {T : String} {name : Str} {id : String} {o e : Expr} {es : List Expr} {to : TE} {t : TA} {apos cpos : Pos} {r : V → List V → Hp → VK → Prop} (K : PySem.W.Frag) (pa : PlainAttrs T) (slot : Slot T name id) (hty : typeOf (.builtin id) = pure (.type "method_descriptor")) (hm : MtR X id r) (ho : PE X o to) (ha : PA X (e :: es) t)
    (hbase : attributeBase o name X.env (eval o X.env) = eval o X.env := by rfl)
    (hfew : ((backTo cpos (starEach (e :: es) X.env)).all (fun x => !x.1) && (backToKw cpos (keywordEach [] X.env)).all (fun x => x.1.isSome)
      && decide ((e :: es).length + ([] : List Keyword).length + (if ([] : List Keyword).isEmpty then 0 else 1) < 30)) = true := by rfl)
    (hline : (apos.endLine == cpos.line) = true := by rfl) (hs : starEach (e :: es) X.env = (false, eval e X.env) :: starEach es X.env := by rfl) (hplain : (backTo cpos (starEach es X.env)).any (·.1) = false := by rfl) (eK : X.K = K := by rfl) :
    PE X (.Call (.Attribute o name apos) (e :: es) [] cpos) (tBM K T r to t) := by
  subst eK
  exact pe_bm pa slot hty hm ho ha hbase hfew hline hs hplain
end
/-! ### cuts: what holds between two parts of a body -/
section
variable {σ : L2.St} {H : Hp} {D : Ends} {c : TT} {t u tb : TS}
theorem while_to (W : Nat → L2.St → Hp → Prop) (E : L2.St → Hp → Prop) (h0 : ∃ m, W m σ H) (hd : ∀ σ H, E σ H → D.nx σ H)
    (hs : ∀ X : L2.St → Hp → Prop, (∀ σ H, E σ H → X σ H) → ∀ m σ H, W m σ H → c σ H fun b H1 => if b = true then ∃ N : L2.St → Hp → Prop, (∀ σ' H', N σ' H' → ∃ m', m' < m ∧ W m' σ' H') ∧ tb { D with nx := N, ct := N, bk := X } σ H1 else X σ H1) : tWhile c tb D σ H := ⟨W, h0, hs D.nx hd⟩
theorem seq_to (E : L2.St → Hp → Prop) (h1 : ∀ X : L2.St → Hp → Prop, (∀ σ H, E σ H → X σ H) → t { D with nx := X } σ H) (h2 : ∀ σ H, E σ H → u D σ H) : tSeq t u D σ H := h1 (u D) h2
theorem seq_set {i : Nat} {v : V} (h : u D (σ.set i (some v)) H) : tSeq (tAsg (tC v) (gName i)) u D σ H := h
theorem st_to (E : L2.St → Hp → Prop) (h1 : ∀ X : L2.St → Hp → Prop, (∀ σ H, E σ H → X σ H) → t { D with nx := X } σ H) (h2 : ∀ σ H, E σ H → D.nx σ H) : t D σ H := h1 D.nx h2
end
theorem ixN_of {n j : Nat} (hj : j < n) : ixN n (j : Int) = some j := by
  unfold ixN
  rw [if_pos (by omega), if_pos (by omega), Int.toNat_natCast]
theorem seq_ix {n j : Nat} (hj : j < n) : seqIndex? (j : Int) n = some j := (ixN_seq (ixN_of hj)).1
theorem at_pick {xs : List V} {r : Int} (h0 : 0 ≤ r) (h1 : r < xs.length) : ∃ v, atI xs r = some v ∧ v ∈ xs := by
  obtain ⟨k, rfl⟩ : ∃ k : Nat, r = k := ⟨r.toNat, by omega⟩
  obtain ⟨v, e⟩ := at_some (show k < xs.length by omega)
  exact ⟨v, atI_nat e, List.mem_of_getElem? e⟩
theorem erase_perm {α : Type} : ∀ {l : List α} {k : Nat} {x : α}, l[k]? = some x → (x :: l.eraseIdx k).Perm l
  | [], _, _, h => by simp at h
  | a :: l, 0, x, h => by
    obtain rfl : a = x := Option.some.inj h
    exact List.Perm.refl _
  | a :: l, k + 1, x, h => by
    have ih := erase_perm (l := l) (k := k) (x := x) (by simpa using h)
    exact (List.Perm.swap a x (l.eraseIdx k)).trans (ih.cons a)
/-! ### data -/
def dInts (ns : List Int) : PyData := .list (ns.map .int)
def dGs (gs : List (Int × Int)) : PyData := .list (gs.map fun g => .tuple [.int g.1, .int g.2])
def dRows (rs : List (List Int)) : PyData := .list (rs.map dInts)
theorem canAll : ∀ {xs : List PyData}, (∀ x ∈ xs, x.canLay0 = true) → PyData.canLayAll0 xs = true
  | [], _ => by simp [PyData.canLayAll0]
  | x :: xs, h => by
    rw [PyData.canLayAll0, h x List.mem_cons_self, canAll fun y hy => h y (List.mem_cons_of_mem _ hy)]
    rfl
theorem depAll {n : Nat} : ∀ {xs : List PyData}, (∀ x ∈ xs, x.depth ≤ n) → PyData.depthAll xs ≤ n
  | [], _ => by simp [PyData.depthAll]
  | x :: xs, h => by
    rw [PyData.depthAll]
    exact Nat.max_le.mpr ⟨h x List.mem_cons_self, depAll fun y hy => h y (List.mem_cons_of_mem _ hy)⟩
structure Oks (n : Nat) (d : PyData) : Prop where
  can : d.canLay0 = true
  dep : d.depth ≤ n
theorem Oks.int (i : Int) : Oks 0 (.int i) := ⟨by simp [PyData.canLay0], by simp [PyData.depth]⟩
theorem Oks.mono {n m : Nat} {d : PyData} (h : Oks n d) (k : n ≤ m) : Oks m d := ⟨h.can, Nat.le_trans h.dep k⟩
theorem Oks.lst {n : Nat} {xs : List PyData} (h : ∀ x ∈ xs, Oks n x) : Oks (n + 1) (.list xs) := ⟨by rw [PyData.canLay0]; exact canAll fun x m => (h x m).can, by rw [PyData.depth]; exact Nat.succ_le_succ (depAll fun x m => (h x m).dep)⟩
theorem Oks.tup {n : Nat} {xs : List PyData} (h : ∀ x ∈ xs, Oks n x) : Oks (n + 1) (.tuple xs) := ⟨by rw [PyData.canLay0]; exact canAll fun x m => (h x m).can, by rw [PyData.depth]; exact Nat.succ_le_succ (depAll fun x m => (h x m).dep)⟩
theorem Oks.ints (ns : List Int) : Oks 1 (dInts ns) := .lst fun x m => by
  obtain ⟨n, _, rfl⟩ := List.mem_map.mp m
  exact .int n
theorem Oks.gs (gs : List (Int × Int)) : Oks 2 (dGs gs) := .lst fun x m => by
  obtain ⟨g, _, rfl⟩ := List.mem_map.mp m
  refine .tup fun y hy => ?_
  rcases List.mem_cons.mp hy with rfl | hy
  · exact .int _
  · rw [List.mem_singleton.mp hy]
    exact .int _
theorem Oks.rows (rs : List (List Int)) : Oks 2 (dRows rs) := .lst fun x m => by
  obtain ⟨r, _, rfl⟩ := List.mem_map.mp m
  exact .ints r
theorem Oks.shaped {n : Nat} {d : PyData} (h : Oks n d) (k : n ≤ 64 := by decide) : SeqAt.shaped d = true := by
  unfold SeqAt.shaped
  rw [h.can, decide_eq_true (Nat.le_trans h.dep k)]
  rfl
theorem Oks.eqv {n : Nat} {d : PyData} (h : Oks n d) : PyData.eqv d d = true := SeqAt.eqv_refl d h.can
theorem dp_ints {K : PySem.W.Frag} {H : Hp} {ns : List Int} : DpAll K H (ns.map V.int) (ns.map .int) := by
  induction ns with
  | nil => exact .nil
  | cons n ns ih => exact .cons (.int n) ih
theorem Dp.ints {K : PySem.W.Frag} {H : Hp} {a : Addr} {ns : List Int} (h : H a = some (.lst (ns.map V.int))) : Dp K H (.ref a) (dInts ns) := .lst (SqL.of h) dp_ints
theorem dpAll_of {K : PySem.W.Frag} {H : Hp} : ∀ {vs : List V} {ds : List PyData}, vs.length = ds.length → (∀ (i : Nat) (v : V) (d : PyData), vs[i]? = some v → ds[i]? = some d → Dp K H v d) → DpAll K H vs ds
  | [], [], _, _ => .nil
  | v :: vs, d :: ds, hl, h => .cons (h 0 v d rfl rfl) (dpAll_of (by simpa using hl) fun i v d e f => h (i + 1) v d (by simpa using e) (by simpa using f))
  | [], _ :: _, hl, _ => by simp at hl
  | _ :: _, [], hl, _ => by simp at hl
theorem GsAt.dp {K : PySem.W.Frag} {H : Hp} {B : Addr → Prop} {a : Addr} {ts : List Addr} {gs : List (Int × Int)} (h : GsAt H B a ts gs) : Dp K H (.ref a) (dGs gs) := by
  refine .lst h.seq (dpAll_of (by rw [List.length_map, List.length_map, h.len]) fun i v d e f => ?_)
  obtain ⟨t, g, rfl, eg, et⟩ := h.get e
  rw [List.getElem?_map, eg] at f
  obtain rfl := Option.some.inj f
  exact .tup (SqT.of et) (.cons (.int _) (.cons (.int _) .nil))
theorem RmsAt.dp {K : PySem.W.Frag} {H : Hp} {B : Addr → Prop} {a : Addr} {ts : List Addr} {rs : List (List Int)} (h : RmsAt H B a ts rs) : Dp K H (.ref a) (dRows rs) := by
  refine .lst h.seq (dpAll_of (by rw [List.length_map, List.length_map, h.len]) fun i v d e f => ?_)
  obtain ⟨t, r, rfl, _, er, et⟩ := h.get e
  rw [List.getElem?_map, er] at f
  obtain rfl := Option.some.inj f
  exact Dp.ints et
theorem eqv_nil (gs : List Int) : PyData.eqv (dInts gs) (dInts []) = gs.isEmpty := by
  cases gs with
  | nil => rfl
  | cons x r => rfl
theorem relTy (n : String) : RelV (.ty n) (.type n) := rfl
theorem FnOk.or {P : Program} {w : World} {K : PySem.W.Frag} {mg : Str → Option Value} {base : Heap} {CX : CXT} {k : Nat} {f : Addr} {fd : FuncData} {ps : List Str} {sp sp' : Sp} (F : FnOk P w K mg base CX k f fd ps sp) (F' : FnOk P w K mg base CX k f fd ps sp') :
    FnOk P w K mg base CX k f fd ps (fun vs H Q E => sp vs H Q E ∨ sp' vs H Q E) :=
  ⟨fun vs H Q E h => h.elim (F.len vs H Q E) (F'.len vs H Q E), fun A outer s H args us vs Q E hr e0 hb r h => h.elim (F.run A outer s H args us vs Q E hr e0 hb r) (F'.run A outer s H args us vs Q E hr e0 hb r)⟩
/-! ### built-ins by their names -/
structure Bi (mg : Str → Option Value) : Prop where
  len : mg "len" = none
  range : mg "range" = none
  enumerate : mg "enumerate" = none
  sorted : mg "sorted" = none
  sum : mg "sum" = none
  min : mg "min" = none
  max : mg "max" = none
  isinstance : mg "isinstance" = none
  zip : mg "zip" = none
  list_ : mg "list" = none
  tuple_ : mg "tuple" = none
  int_ : mg "int" = none
  bool_ : mg "bool" = none
  str_ : mg "str" = none
  abs : mg "abs" = none
  repr : mg "repr" = none
  dict_ : mg "dict" = none
  any : mg "any" = none
  all : mg "all" = none
  set_ : mg "set" = none
  reversed : mg "reversed" = none
  ValueError_ : mg "ValueError" = none
  divmod : mg "divmod" = none
end El
namespace El
open PySem PySem.Spec PyProof.Rows L2
/-- how many live in each -/
def lens (rs : List (List Int)) : List Int := rs.map fun r => (r.length : Int)
theorem lens_length (rs : List (List Int)) : (lens rs).length = rs.length := List.length_map _
theorem lens_at {rs : List (List Int)} {i : Nat} {r : List Int} (h : rs[i]? = some r) : (lens rs)[i]? = some (r.length : Int) := by
  unfold lens
  rw [List.getElem?_map, h]
  rfl
theorem cut_to (xs : List V) (j : Nat) : cutV xs none (some (j : Int)) = xs.take j := by
  unfold cutV
  rw [HT.sIx_none, HT.sIx_nat]
  show (List.drop 0 xs).take (min j xs.length - 0) = _
  rw [List.drop_zero, Nat.sub_zero, ← List.take_eq_take_min]
/-- the pair that stands at a value -/
def prOf (H : Hp) : V → Int × Int
  | .ref t => match H t with
    | some (.tup [.int i, .int j]) => (i, j)
    | _ => (0, 0)
  | _ => (0, 0)
theorem prOf_is {H : Hp} {t : Addr} {g : Int × Int} (h : H t = some (.tup [.int g.1, .int g.2])) : prOf H (.ref t) = g := by
  show (match H t with
    | some (.tup [.int i, .int j]) => (i, j)
    | _ => (0, 0)) = g
  rw [h]
theorem GsAt.prs {H : Hp} {B : Addr → Prop} {a : Addr} {ts : List Addr} {gs : List (Int × Int)} (h : GsAt H B a ts gs) : (ts.map V.ref).map (prOf H) = gs := by
  refine List.ext_getElem? fun i => ?_
  rw [List.getElem?_map]
  cases e : (ts.map V.ref)[i]? with
  | none =>
    have hl : (ts.map V.ref).length ≤ i := List.getElem?_eq_none_iff.mp e
    rw [List.length_map, h.len] at hl
    rw [List.getElem?_eq_none_iff.mpr hl]
    rfl
  | some x =>
    obtain ⟨t, g, rfl, eg, et⟩ := h.get e
    rw [eg]
    show some (prOf H (.ref t)) = some g
    rw [prOf_is et]
theorem GsAt.mem {H : Hp} {B : Addr → Prop} {a : Addr} {ts : List Addr} {gs : List (Int × Int)} (h : GsAt H B a ts gs) : ∀ x ∈ ts.map V.ref, ∃ t, x = V.ref t ∧ H t = some (.tup [.int (prOf H x).1, .int (prOf H x).2]) := fun x m => by
  obtain ⟨i, e⟩ := List.mem_iff_getElem?.mp m
  obtain ⟨t, g, rfl, eg, et⟩ := h.get e
  refine ⟨t, rfl, ?_⟩
  rw [prOf_is et]
  exact et
theorem sorted_prs {k : V → Int × Int} {ys xs : List V} {gs : List (Int × Int)} (f : Fit gs) (hx : xs.map k = gs) (hs : SrtO.Srtd (ltP k) ys) (hb : SrtO.Stb (ltP k) ys xs) : ys.reverse.map k = byAge gs := by
  refine byAge_of f ?_ ?_
  · rw [← hx]
    exact ((List.reverse_perm ys).trans hb.perm).map k
  · rw [List.map_reverse, List.pairwise_reverse, List.pairwise_map]
    refine hs.imp fun {a b} h => ?_
    have h' : SrtO.lexB (k b) (k a) = false := h
    rw [SrtO.lexB_no] at h'
    omega
theorem cut_1 (xs : List V) : cutV xs (some 1) none = xs.drop 1 := by
  unfold cutV
  rw [show HT.sIx xs.length 0 (some 1) = min 1 xs.length from HT.sIx_nat xs.length 0 1, HT.sIx_none]
  cases xs with
  | nil => rfl
  | cons x r =>
    rw [show min 1 (x :: r).length = 1 by
      rw [List.length_cons]
      omega]
    show (List.take ((x :: r).length - 1) r) = r
    rw [List.length_cons, Nat.add_sub_cancel]
    exact List.take_length
theorem lens_falls {gs : List (Int × Int)} (f : Fit gs) {i : Nat} {x y : Int} (h1 : (lens (settle gs))[i]? = some x) (h2 : ((lens (settle gs)).drop 1)[i]? = some y) : ¬ x < y := by
  rw [List.getElem?_drop] at h2
  unfold lens at h1 h2
  rw [List.getElem?_map] at h1 h2
  have hp := settleL_falls (byAge gs) f.byAge.pos
  cases e1 : (settle gs)[i]? with
  | none => rw [e1] at h1; cases h1
  | some r =>
    cases e2 : (settle gs)[1 + i]? with
    | none => rw [e2] at h2; cases h2
    | some s =>
      rw [e1] at h1
      rw [e2] at h2
      obtain rfl : (r.length : Int) = x := Option.some.inj h1
      obtain rfl : (s.length : Int) = y := Option.some.inj h2
      obtain ⟨l1, q1⟩ := List.getElem?_eq_some_iff.mp (show (settleL (byAge gs))[i]? = some r from e1)
      obtain ⟨l2, q2⟩ := List.getElem?_eq_some_iff.mp (show (settleL (byAge gs))[1 + i]? = some s from e2)
      have := List.pairwise_iff_getElem.mp hp i (1 + i) l1 l2 (by omega)
      rw [q1, q2] at this
      omega
theorem dget_pks {H : Hp} {d : Addr} {gs : List (Int × Int)} {g : Int × Int} (h : H d = some (.dK (pks gs))) (f : Fit gs) (m : g ∈ gs) : DGet H d (.int g.1) (some (.int g.2)) := by
  have q := DGet.k (k := Sum.inl g.1) h
  rw [pks_some f.nd m] at q
  exact q
theorem log_lt {m : Int} {k : Nat} (h0 : 0 < m) (h : m < 2 ^ k) : m.natAbs.log2 < k := by
  obtain ⟨j, rfl⟩ : ∃ j : Nat, m = j := ⟨m.toNat, by omega⟩
  have h' : j < 2 ^ k := by exact_mod_cast h
  rw [Int.natAbs_natCast]
  exact (Nat.log2_lt (by omega)).mpr h'
theorem GsAt.mix {H : Hp} {B B' : Addr → Prop} {a m : Addr} {ts : List Addr} {gs : List (Int × Int)} {ys : List V} (h : GsAt H B a ts gs) (e : H m = some (.lst ys)) (bm : B' m) (hb : ∀ b, B b → B' b) (p : ys.Perm (ts.map V.ref)) :
    ∃ ts' gs', GsAt H B' m ts' gs' ∧ gs'.Perm gs := by
  have hm : ∀ y ∈ ys, ∃ t, y = V.ref t ∧ t ∈ ts := fun y hy => by
    obtain ⟨t, ht, rfl⟩ := List.mem_map.mp (p.mem_iff.mp hy)
    exact ⟨t, rfl, ht⟩
  obtain ⟨us, rfl, hu⟩ : ∃ us : List Addr, ys = us.map V.ref ∧ ∀ u ∈ us, u ∈ ts := by
    clear p e
    induction ys with
    | nil => exact ⟨[], rfl, fun u hu => absurd hu (by simp)⟩
    | cons y ys ih =>
      obtain ⟨t, rfl, ht⟩ := hm y List.mem_cons_self
      obtain ⟨us, rfl, hu⟩ := ih fun z hz => hm z (List.mem_cons_of_mem _ hz)
      exact ⟨t :: us, rfl, fun u h => by
        rcases List.mem_cons.mp h with rfl | h
        · exact ht
        · exact hu u h⟩
  refine ⟨us, (us.map V.ref).map (prOf H), ⟨e, bm, by rw [List.length_map, List.length_map], fun i t g e1 e2 => ?_, fun t ht => hb t (h.b t (hu t ht))⟩, ?_⟩
  · rw [List.getElem?_map, List.getElem?_map, e1] at e2
    have e2' : prOf H (.ref t) = g := Option.some.inj e2
    obtain ⟨j, ej⟩ := List.mem_iff_getElem?.mp (hu t (List.mem_of_getElem? e1))
    obtain ⟨t', g', e3, eg, et⟩ := h.get (i := j) (x := .ref t) (by rw [List.getElem?_map, ej]; rfl)
    injection e3 with e3
    subst e3
    rw [prOf_is et] at e2'
    rw [← e2']
    exact et
  · have := p.map (prOf H)
    rw [h.prs] at this
    exact this
/-- put in anywhere -/
theorem GsAt.ins {H : Hp} {B : Addr → Prop} {a : Addr} {ts : List Addr} {gs : List (Int × Int)} {ys : List V} (h : GsAt H B a ts gs) (hn : a ∉ ts) {q : Addr} {g : Int × Int} (e : H q = some (.tup [.int g.1, .int g.2])) (bq : B q) (p : ys.Perm (ts.map V.ref ++ [.ref q])) :
    ∃ ts' gs', GsAt (upd H a (.lst ys)) B a ts' gs' ∧ gs'.Perm (gs ++ [g]) ∧ a ∉ ts' ∧ ys = ts'.map V.ref := by
  have nq : q ≠ a := fun z => by
    rw [z, h.top] at e
    cases e
  have hm : ∀ y ∈ ys, ∃ t, y = V.ref t ∧ t ∈ ts ++ [q] := fun y hy => by
    rcases List.mem_append.mp (p.mem_iff.mp hy) with m | m
    · obtain ⟨t, ht, rfl⟩ := List.mem_map.mp m
      exact ⟨t, rfl, List.mem_append_left _ ht⟩
    · exact ⟨q, List.mem_singleton.mp m, List.mem_append_right _ (List.mem_singleton.mpr rfl)⟩
  obtain ⟨us, rfl, hu⟩ : ∃ us : List Addr, ys = us.map V.ref ∧ ∀ u ∈ us, u ∈ ts ++ [q] := by
    clear p
    induction ys with
    | nil => exact ⟨[], rfl, fun u hu => absurd hu (by simp)⟩
    | cons y ys ih =>
      obtain ⟨t, rfl, ht⟩ := hm y List.mem_cons_self
      obtain ⟨us, rfl, hu⟩ := ih fun z hz => hm z (List.mem_cons_of_mem _ hz)
      exact ⟨t :: us, rfl, fun u h => by
        rcases List.mem_cons.mp h with rfl | h
        · exact ht
        · exact hu u h⟩
  have ha : ∀ u ∈ us, u ≠ a ∧ B u ∧ ∃ x : Int × Int, H u = some (.tup [.int x.1, .int x.2]) := fun u m => by
    rcases List.mem_append.mp (hu u m) with m | m
    · obtain ⟨j, ej⟩ := List.mem_iff_getElem?.mp m
      obtain ⟨t', g', e3, eg, et⟩ := h.get (i := j) (x := .ref u) (by rw [List.getElem?_map, ej]; rfl)
      injection e3 with e3
      subst e3
      exact ⟨fun z => hn (z ▸ m), h.b u m, g', et⟩
    · rw [List.mem_singleton.mp m]
      exact ⟨nq, bq, g, e⟩
  refine ⟨us, (us.map V.ref).map (prOf H), ⟨upd_same, h.ba, by rw [List.length_map, List.length_map], fun i t x e1 e2 => ?_, fun t m => (ha t m).2.1⟩, ?_, fun m => (ha a m).1 rfl, rfl⟩
  · rw [List.getElem?_map, List.getElem?_map, e1] at e2
    have e2' : prOf H (.ref t) = x := Option.some.inj e2
    obtain ⟨n1, _, y, ey⟩ := ha t (List.mem_of_getElem? e1)
    rw [prOf_is ey] at e2'
    subst e2'
    rw [upd_ne n1]
    exact ey
  · have := p.map (prOf H)
    rw [List.map_append, h.prs] at this
    rw [show [V.ref q].map (prOf H) = [g] by show [prOf H (.ref q)] = [g]; rw [prOf_is e]] at this
    exact this
theorem GsAt.cat {H : Hp} {B : Addr → Prop} {a l : Addr} {ts : List Addr} {gs : List (Int × Int)} (h : GsAt H B a ts gs) {q : Addr} {g : Int × Int} (e : H q = some (.tup [.int g.1, .int g.2])) (el : H l = some (.lst (ts.map V.ref ++ [.ref q]))) :
    GsAt H (fun _ => True) l (ts ++ [q]) (gs ++ [g]) := by
  refine ⟨by rw [List.map_append]; exact el, trivial, by rw [List.length_append, List.length_append, h.len]; rfl, fun i t x e1 e2 => ?_, fun _ _ => trivial⟩
  by_cases hi : i < ts.length
  · rw [List.getElem?_append_left hi] at e1
    rw [List.getElem?_append_left (by rw [← h.len]; exact hi)] at e2
    exact h.at' i t x e1 e2
  · have hi' : i = ts.length := by
      have := at_lt e1
      rw [List.length_append, List.length_singleton] at this
      omega
    subst hi'
    rw [List.getElem?_append_right (Nat.le_refl _), Nat.sub_self] at e1
    rw [h.len, List.getElem?_append_right (Nat.le_refl _), Nat.sub_self] at e2
    obtain rfl : q = t := Option.some.inj e1
    obtain rfl : g = x := Option.some.inj e2
    exact e
theorem inV_ints (x : Int) (ns : List Int) : inV (.int x) (ns.map V.int) = decide (x ∈ ns) := by
  unfold inV
  rw [List.any_map]
  induction ns with
  | nil => rfl
  | cons n ns ih =>
    rw [List.any_cons, ih]
    have e : ((fun y => eqV y (V.int x)) ∘ V.int) n = decide (x = n) := by
      show eqV (.int n) (.int x) = decide (x = n)
      have e2 : eqV (.int n) (.int x) = decide (n = x) := by
        unfold eqV
        first | rfl | simp
      rw [e2]
      by_cases h : n = x
      · subst h; simp
      · rw [decide_eq_false h, decide_eq_false (fun z => h z.symm)]
    rw [e]
    by_cases h : x = n
    · subst h
      simp
    · rw [decide_eq_false h, Bool.false_or]
      by_cases h2 : x ∈ ns
      · rw [decide_eq_true h2, decide_eq_true (List.mem_cons_of_mem _ h2)]
      · rw [decide_eq_false h2, decide_eq_false (fun z => (List.mem_cons.mp z).elim h h2)]
theorem flat_ints (ns : List Int) : (ns.map V.int).all flatV = true := by
  rw [List.all_map, List.all_eq_true]
  intro x _
  rfl
theorem eqvAll_ints : ∀ a b : List Int, PyData.eqvAll (a.map .int) (b.map .int) = decide (a = b)
  | [], [] => rfl
  | [], y :: b => by
    rw [decide_eq_false (by simp)]
    rfl
  | x :: a, [] => by
    rw [decide_eq_false (by simp)]
    rfl
  | x :: a, y :: b => by
    rw [List.map_cons, List.map_cons, PyData.eqvAll, eqvAll_ints a b]
    show ((x == y) && decide (a = b)) = _
    by_cases h : x = y
    · subst h
      by_cases h2 : a = b
      · subst h2
        simp
      · rw [decide_eq_false h2, decide_eq_false (fun z => h2 (List.cons.inj z).2)]
        simp
    · have : (x == y) = false := by simpa using h
      rw [this, decide_eq_false (fun z => h (List.cons.inj z).1)]
      rfl
theorem eqv_ints (a b : List Int) : PyData.eqv (dInts a) (dInts b) = decide (a = b) := by
  unfold dInts
  rw [PyData.eqv]
  exact eqvAll_ints a b
theorem cut_at (xs : List V) (k : Nat) : cutV xs (some (k : Int)) (some ((k : Int) + 1)) = (xs.drop k).take 1 := by
  unfold cutV
  rw [HT.sIx_nat, show (k : Int) + 1 = ((k + 1 : Nat) : Int) by omega, HT.sIx_nat]
  by_cases h : k < xs.length
  · rw [Nat.min_eq_left (by omega), Nat.min_eq_left (by omega), Nat.add_sub_cancel_left]
  · have h1 : min k xs.length = xs.length := by omega
    have h2 : min (k + 1) xs.length = xs.length := by omega
    rw [h1, h2, Nat.sub_self, List.take_zero, List.drop_of_length_le (show xs.length ≤ k by omega)]
    rfl
theorem drop_take1 (L : List Int) (k : Nat) : (L.drop k).take 1 = L[k]?.toList := by
  by_cases h : k < L.length
  · rw [List.getElem?_eq_getElem h, List.drop_eq_getElem_cons h]
    rfl
  · rw [List.getElem?_eq_none (by omega), List.drop_of_length_le (by omega)]
    rfl
end El
namespace El
open PySem PySem.Spec PyProof.Rows L2
section
variable {X : Cx}
/-- the walk over a list -/
theorem gathers_list {pins : List (Addr × Obj)} {σ : L2.St} {H : Hp} {s : Shared} {a : Addr} {xs : List V} (I : Inv X pins σ H s) (h : SqL X.K H a xs) : xs.length ≤ sizeLine ∧ Gathers X s (.ref a) xs := by
  have ⟨us, r, ⟨o, n, at_a, is_list, _, data⟩, few⟩ := I.list h
  refine ⟨few, fun R go => wpAny_collect_seq a (.inl rfl) at_a is_list data (fun h' grown => ?_) ?_⟩
  · rw [List.toList_toArray]
    exact go us h' s.toks r grown
  · rw [List.size_toArray]
    exact r.length ▸ few
/-- a value that is an object's name, seen as ours -/
def asOurs : Value → V
  | .ref a => .ref a
  | _ => .non
/-- sorted(xs, reverse=b) of a list of pairs of ints -/
def rSortedPK (K : PySem.W.Frag) (b : Bool) : List V → List V → Hp → VK → Prop := fun vs zs H Q => ∃ (a : Addr) (xs : List V) (k : V → Int × Int), vs = [V.ref a] ∧ zs = [.bl b] ∧ SqL K H a xs ∧ (∀ x ∈ xs, ∃ t, x = V.ref t ∧ H t = some (.tup [.int (k x).1, .int (k x).2])) ∧
  ∀ ys p, SrtO.Srtd (ltP k) ys → ys.Perm xs → H p = none → Q (.ref p) (upd H p (.lst (if b = true then ys.reverse else ys)))
theorem cr_sortedPK {b : Bool} (_ : X.calm = true) : CallRK X (.builtin "sorted") [Str.ofString "reverse"] (rSortedPK X.K b) := by
  rintro pins s σ H _ _ us ws Q I one by_kw ⟨a, xs, k, rfl, rfl, here, pairs, q⟩
  obtain ⟨v, w, rfl, rfl, rfl, rfl⟩ : ∃ v w, us = [v] ∧ ws = [w] ∧ v = .ref a ∧ w = .bool b := by
    cases one with | cons e1 t1 => cases t1; cases by_kw with | cons e2 t2 => cases t2; exact ⟨_, _, rfl, rfl, e1, e2⟩
  have ⟨few, walk⟩ := gathers_list I here
  have known : ∀ {x : V} {u : Value}, x ∈ xs → RelV x u → asOurs u = x := fun {x u} m e => by
    have ⟨t, ex, _⟩ := pairs x m
    subst ex
    exact congrArg asOurs e
  refine sorted_gathered I few walk (SrtO.swo_lex fun u => k (asOurs u)) (fun us s' l two r J free => ?_) fun P l hP perm up free => ?_
  · refine SrtO.pairs_sortableO (k := fun u => k (asOurs u)) (Nat.lt_of_lt_of_le Nat.two_pos two) (fun u m => ?_) fun o at_l => ?_
    · obtain ⟨P, hP, rfl, rfl⟩ := partners_of r
      have ⟨⟨x, u⟩, mp, eu⟩ := List.mem_map.mp m
      subst eu
      have mx := List.mem_map_of_mem (f := Prod.fst) mp
      have ⟨t, ex, ht⟩ := pairs x mx
      have apart : t ≠ l := fun e => by rw [e, free] at ht; cases ht
      have ⟨_, vs, rv, o, at_t, is_tup, n, data⟩ := J.hok t _ ((upd_ne apart).trans ht)
      rw [known mx (hP _ mp)]
      cases rv with | cons e1 rv => cases rv with | cons e2 rv => cases rv; exact e1.elim fun t1 e1 => e2.elim fun t2 e2 => ⟨t, o, t1, t2, n, by have := hP _ mp; rw [show (x, u).1 = V.ref t from ex] at this; exact this, at_t, is_tup, by rw [data, e1, e2]⟩
    · have ⟨_, vs, e, _, there⟩ := J.hok l _ upd_same
      rw [there] at at_l
      cases at_l
      have differ : Value.type "list" ≠ Value.type "tuple" := by decide
      exact differ
  · have sorts : SrtO.Srtd (ltP k) (P.map Prod.fst) := by
      rw [SrtO.Srtd, List.pairwise_map] at up ⊢
      refine up.imp_of_mem fun {p p'} m m' h => ?_
      have on := fun {p : V × Value} (m : p ∈ P) => known (perm.mem_iff.mp (List.mem_map_of_mem (f := Prod.fst) m)) (hP p m)
      rw [on m, on m'] at h
      exact h
    exact q _ l sorts perm free
/-- sorted by age and patience, turned round: from the eldest on -/
theorem sorted_down {k : V → Int × Int} {ys xs : List V} {gs : List (Int × Int)} (f : Fit gs) (hx : xs.map k = gs) (hs : SrtO.Srtd (ltP k) ys) (hb : ys.Perm xs) : ys.reverse.map k = byAge gs := by
  refine byAge_of f ?_ ?_
  · rw [← hx]
    exact ((List.reverse_perm ys).trans hb).map k
  · rw [List.map_reverse, List.pairwise_reverse, List.pairwise_map]
    refine hs.imp fun {a b} h => ?_
    have h' : SrtO.lexB (k b) (k a) = false := h
    rw [SrtO.lexB_no] at h'
    omega
end
end El
namespace El
open PySem PySem.Spec PyProof.Rows L2
section
variable {X : Cx}
/-- len of a set of ints -/
theorem call_lenSI : CallR X (.builtin "len") (fun xs H Q => ∃ (a : Addr) (S : Int → Bool) (n : Nat), xs = [V.ref a] ∧ H a = some (SetO X.w a S n) ∧ n ≤ 100000 ∧ Q (.int n) H) := by
  intro pins s σ H xs us Q I r h
  obtain ⟨a, S, n, rfl, ha, hn, q⟩ := h
  rw [Vals.ref1 r]
  obtain ⟨o, es, ep, t, ho, hex, hd, _, _, _, hf, he⟩ := (setO_get I ha).setOf (P := X.prog)
  refine call_len_set ho hex hd hf (by rw [he]; exact Int.lt_of_le_of_lt (show (n : Int) ≤ 100000 by omega) (by decide)) ⟨.int n, H, I.tok _, ⟨_, by rw [he]⟩, q⟩
end
theorem piListK {X : Cx} {tg l : Expr} {tl : TE} (K : PySem.W.Frag) (hl : PE X l tl) (e : X.K = K := by rfl) : PI X tg l (iList K tl) := by
  subst e
  exact pi_list hl
/-- the outer walk of a comprehension with two fors, and the inner one -/
theorem out_it {J : It} {n : Nat} {G : Hp → Prop} {Y : Nat → Hp → V → Hp → Prop} (w : Walk J n G Y) {Qd : Hp → Prop} {H0 : Hp} {bd : (Hp → Prop) → V → Hp → Prop} (Pv : Nat → Hp → Prop) (h0 : Pv 0 H0) (hG : ∀ i H, i ≤ n → Pv i H → G H)
    (hs : ∀ i x H H', i < n → Pv i H → Y i H x H' → bd (Pv (i + 1)) x H') (hd : ∀ H, Pv n H → Qd H) :
    ∃ W : Nat → Nat → Hp → Prop, (∃ m, W 0 m H0) ∧ ∀ i m H, W i m H → (J.stop i H ∧ Qd H) ∨ (J.go i H ∧ ∃ Nx : Hp → Prop, (∀ H', Nx H' → ∃ m', m' < m ∧ W (i + 1) m' H') ∧ ∀ x H', J.yld i H x H' → bd Nx x H') := by
  refine ⟨fun i m H => m = n - i ∧ i ≤ n ∧ Pv i H, ⟨n, by simp, Nat.zero_le _, h0⟩, ?_⟩
  rintro i m H ⟨rfl, hi, p⟩
  have q := hG i H hi p
  by_cases hlt : i < n
  · exact .inr ⟨w.goes i H hlt q, Pv (i + 1), fun H' p' => ⟨n - (i + 1), by omega, rfl, hlt, p'⟩, fun x H' y => hs i x H H' hlt p (w.yields i H x H' hlt q y)⟩
  · have e : i = n := by omega
    subst e
    exact .inl ⟨w.stops H q, hd H p⟩
theorem cut_from (xs : List V) (j : Nat) : cutV xs (some (j : Int)) none = xs.drop j := by
  unfold cutV
  rw [HT.sIx_none, HT.sIx_nat]
  show (List.drop (min j xs.length) xs).take (xs.length - min j xs.length) = _
  by_cases h : j ≤ xs.length
  · rw [Nat.min_eq_left h, List.take_of_length_le (by rw [List.length_drop]; omega)]
  · rw [Nat.min_eq_right (by omega), List.drop_of_length_le (Nat.le_refl _), List.drop_of_length_le (show xs.length ≤ j by omega), List.take_nil]
/-- a list of lists of ints, read alone -/
structure RdAt (H : Hp) (o : Addr) (ts : List Addr) (rs : List (List Int)) : Prop where
  top : H o = some (.lst (ts.map V.ref))
  len : ts.length = rs.length
  at' : ∀ (i : Nat) (t : Addr) (r : List Int), ts[i]? = some t → rs[i]? = some r → H t = some (.lst (r.map V.int))
theorem RdAt.same {H H' : Hp} {a : Addr} {ts : List Addr} {rs : List (List Int)} (h : RdAt H a ts rs) (k : Same H H') : RdAt H' a ts rs :=
  ⟨k _ _ h.top, h.len, fun i t g e f => k _ _ (h.at' i t g e f)⟩
theorem RdAt.seq {K : PySem.W.Frag} {H : Hp} {a : Addr} {ts : List Addr} {rs : List (List Int)} (h : RdAt H a ts rs) : SqL K H a (ts.map V.ref) := SqL.of h.top
theorem RmsAt.rd {H : Hp} {B : Addr → Prop} {a : Addr} {ts : List Addr} {rs : List (List Int)} (h : RmsAt H B a ts rs) : RdAt H a ts rs := ⟨h.top, h.len, h.at'⟩
theorem RdAt.get {H : Hp} {a : Addr} {ts : List Addr} {rs : List (List Int)} (h : RdAt H a ts rs) {i : Nat} {x : V} (e : (ts.map V.ref)[i]? = some x) : ∃ t r, x = .ref t ∧ ts[i]? = some t ∧ rs[i]? = some r ∧ H t = some (.lst (r.map V.int)) := by
  obtain ⟨t, e1, rfl⟩ := refs_at e
  have hi := at_lt e1
  rw [h.len] at hi
  obtain ⟨g, e2⟩ := at_some hi
  exact ⟨t, g, rfl, e1, e2, h.at' i t g e1 e2⟩
theorem pks_get {gs : List (Int × Int)} (nd : (gs.map (·.1)).Nodup) {a : Int} (m : a ∈ gs.map (·.1)) : valV (pks gs) (Sum.inl a) = some (.int (pof gs a)) := by
  obtain ⟨g, hg, rfl⟩ := List.mem_map.mp m
  rw [pks_some nd hg, pof_is nd hg]
theorem dget_pof {H : Hp} {d : Addr} {gs : List (Int × Int)} (h : H d = some (.dK (pks gs))) (nd : (gs.map (·.1)).Nodup) {a : Int} (m : a ∈ gs.map (·.1)) : DGet H d (.int a) (some (.int (pof gs a))) := by
  have z := DGet.k (k := Sum.inl a) h
  rw [pks_get nd m] at z
  exact z
theorem take_snoc_flat {rs : List (List Int)} {i : Nat} {r : List Int} (e : rs[i]? = some r) : (rs.take (i + 1)).flatten = (rs.take i).flatten ++ r := by
  rw [take_snoc e, List.flatten_append, List.flatten_cons, List.flatten_nil, List.append_nil]
theorem flat_split {rs : List (List Int)} {i j : Nat} {r : List Int} {a : Int} (nd : rs.flatten.Nodup) (e : rs[i]? = some r) (e2 : r[j]? = some a) : a ∉ (rs.take i).flatten ++ r.take j := by
  have h1 : rs.flatten = (rs.take i).flatten ++ (r ++ (rs.drop (i + 1)).flatten) := by
    have hi := at_lt e
    have h2 : rs = rs.take i ++ r :: rs.drop (i + 1) := by
      have := List.getElem_cons_drop (as := rs) (i := i) hi
      rw [List.getElem?_eq_getElem hi] at e
      rw [Option.some.inj e] at this
      rw [this, List.take_append_drop]
    rw [congrArg List.flatten h2, List.flatten_append, List.flatten_cons]
  have h3 : r = r.take j ++ a :: r.drop (j + 1) := by
    have hj := at_lt e2
    have := List.getElem_cons_drop (as := r) (i := j) hj
    rw [List.getElem?_eq_getElem hj] at e2
    rw [Option.some.inj e2] at this
    rw [this, List.take_append_drop]
  rw [h1] at nd
  generalize (rs.take i).flatten = x at nd ⊢
  generalize (rs.drop (i + 1)).flatten = y at nd
  rw [h3] at nd
  obtain ⟨_, n2, n3⟩ := List.nodup_append.mp nd
  intro m
  rcases List.mem_append.mp m with m | m
  · exact n3 a m a (List.mem_append_left _ (List.mem_append_right _ List.mem_cons_self)) rfl
  · obtain ⟨n4, _, _⟩ := List.nodup_append.mp n2
    obtain ⟨_, _, n7⟩ := List.nodup_append.mp n4
    exact n7 a m a List.mem_cons_self rfl
theorem flat_mem {rs : List (List Int)} {i j : Nat} {r : List Int} {a : Int} (e : rs[i]? = some r) (e2 : r[j]? = some a) : a ∈ rs.flatten :=
  List.mem_flatten.mpr ⟨r, List.mem_of_getElem? e, List.mem_of_getElem? e2⟩
end El
namespace El
/-! ### in peace, by counting -/
theorem upIn_iff {pf : Int → Int} : ∀ {l : List Int} {k : Nat}, upIn pf l k = none ↔ ∀ (i : Nat) (a : Int), l[i]? = some a → ((i + k : Nat) : Int) ≤ pf a
  | [], _ => ⟨fun _ i a e => by simp at e, fun _ => rfl⟩
  | x :: l, k => by
    constructor
    · intro h
      unfold upIn at h
      by_cases q : pf x < (k : Int)
      · rw [if_pos q] at h
        cases h
      · rw [if_neg q] at h
        intro i a e
        cases i with
        | zero =>
          obtain rfl : x = a := Option.some.inj e
          omega
        | succ i =>
          have := (upIn_iff.mp h) i a (by simpa using e)
          omega
    · exact upIn_none
theorem upsetOf_iff {gs : List (Int × Int)} : ∀ {rs : List (List Int)} {k : Nat}, upsetOf gs rs k = none ↔ ∀ r ∈ rs, eldUp gs r = none
  | [], _ => ⟨fun _ r m => absurd m List.not_mem_nil, fun _ => rfl⟩
  | r :: rs, k => by
    constructor
    · intro h
      unfold upsetOf at h
      cases e : eldUp gs r with
      | some a => rw [e] at h; cases h
      | none =>
        rw [e] at h
        intro s m
        rcases List.mem_cons.mp m with rfl | m
        · exact e
        · exact (upsetOf_iff.mp h) s m
    · exact upsetOf_none
theorem above_ix : ∀ {l : List Int} {i : Nat} {a : Int}, l.Pairwise (· > ·) → l[i]? = some a → (l.filter fun b => decide (a < b)).length = i
  | [], i, a, _, e => by simp at e
  | x :: l, 0, a, h, e => by
    obtain rfl : x = a := Option.some.inj e
    obtain ⟨h1, _⟩ := List.pairwise_cons.mp h
    rw [List.filter_cons_of_neg (by simp), List.filter_eq_nil_iff.mpr fun b hb => by
      have := h1 b hb
      simp only [decide_eq_true_eq]
      omega]
    rfl
  | x :: l, i + 1, a, h, e => by
    obtain ⟨h1, h2⟩ := List.pairwise_cons.mp h
    have e' : l[i]? = some a := by simpa using e
    have := h1 a (List.mem_of_getElem? e')
    rw [List.filter_cons_of_pos (by simp only [decide_eq_true_eq]; omega), List.length_cons, above_ix h2 e']
def above (r : List Int) (a : Int) : List Int := r.filter fun b => decide (a < b)
theorem down_strict {r : List Int} (nd : r.Nodup) : (down r).Pairwise (· > ·) := by
  have h1 := down_sorted r
  have h2 : (down r).Nodup := ((down_perm r).nodup_iff).mpr nd
  have h3 := h1.and h2
  exact h3.imp fun {a b} h => by
    have := h.1
    have := h.2
    omega
theorem eldUp_iff {gs : List (Int × Int)} {r : List Int} (nd : r.Nodup) : eldUp gs r = none ↔ ∀ a ∈ r, ((above r a).length : Int) ≤ pof gs a := by
  have hl : ∀ a, (above r a).length = ((down r).filter fun b => decide (a < b)).length := fun a => (((down_perm r).filter _).length_eq).symm
  unfold eldUp
  rw [upIn_iff]
  constructor
  · intro h a m
    obtain ⟨i, e⟩ := List.mem_iff_getElem?.mp ((down_perm r).mem_iff.mpr m)
    have := h i a e
    rw [hl, above_ix (down_strict nd) e]
    omega
  · intro h i a e
    have := h a ((down_perm r).mem_iff.mp (List.mem_of_getElem? e))
    rw [hl, above_ix (down_strict nd) e] at this
    omega
theorem flat_nd {rs : List (List Int)} (nd : rs.flatten.Nodup) {r : List Int} (m : r ∈ rs) : r.Nodup := (List.pairwise_flatten.mp nd).1 r m
def full (rs : List (List Int)) : List (List Int) := rs.filter fun r => !r.isEmpty
def lensD (rs : List (List Int)) : List Int := (full rs).map fun r => (r.length : Int)
/-- in peace and as good as can be -/
def bestB (gs : List (Int × Int)) (rs : List (List Int)) : Bool := decide (upsetOf gs rs 0 = none) && decide (down (lensD rs) = (settle gs).map fun r => (r.length : Int))
end El
namespace El
open PySem PySem.Spec PyProof.Rows L2
section
variable {X : Cx}
theorem ptTruthK {a : Expr} {ta : TE} (K : PySem.W.Frag) (ha : PE X a ta) (he : ∀ whole, isTrue a X.env whole = (do let v ← whole; standAt a.pos; holding [v] (truthy v))) (e : X.K = K := by rfl) :
    PT X a (tTru K ta) := by
  subst e
  exact pt_truth ha he
/-! ### xs[::s], s 1 or -1 -/
def tStepL (K : PySem.W.Frag) (te ts : TE) : TE := fun σ H Q => te σ H fun x H1 => ts σ H1 fun y H2 => ∃ c, y = .int c ∧ ∃ a xs, x = .ref a ∧ (c = 1 ∨ c = -1) ∧ SqL K H2 a xs ∧ ∀ p, H2 p = none → Q (.ref p) (upd H2 p (.lst (if c = 1 then xs else xs.reverse)))
/-- what such a cut picks -/
theorem pick_way (us : List Value) {c : Int} (h : c = 1 ∨ c = -1) : slicePick us.toArray none none (some c) = (if c = 1 then us else us.reverse).toArray := by
  rcases h with rfl | rfl
  · show slicePick us.toArray none none none = _
    rw [slicePick_cut, HT.sIx_none, HT.sIx_none, List.drop_zero, Nat.sub_zero, List.take_length]
    rfl
  · exact PySem.W.krv_pick us.toArray
/-- a cut lies there that names its step alone -/
def StepAt (s : Shared) (i : Value) (c : Int) : Prop := ∃ p u, i = .ref p ∧ s.heap.IsSliceOf p .none .none (.int c u)
theorem step_made {st : Expr} {ts : TE} {p : Pos} {pins : List (Addr × Obj)} {σ : L2.St} {H : Hp} {s : Shared} {R : Value → Shared → Prop} {D : Int → Hp → Prop} (hs : PE X st ts) (I : Inv X pins σ H s)
    (h : ts σ H fun y H' => ∃ c, y = .int c ∧ D c H') (go : ∀ c H' i s', Inv X pins σ H' s' → StepAt s' i c → D c H' → R i s') : wpAny (model X.prog X.w) X.A (eval (.Slice none none (some st) p) X.env) R X.xe s := by
  refine wpAny_Slice (wpAny_pure (wpAny_pure (thn (hs.run pins s σ H _ I h) ?_)))
  rintro _ s' ⟨_, H', J, e, c, rfl, d⟩
  obtain ⟨u, rfl⟩ : ∃ u, _ = Value.int c u := e
  exact go c H' _ _ (J.kept (t' := s'.toks) fun _ _ => Heap.get?_push_of_some _) ⟨_, u, rfl, .new ..⟩ d
theorem list_cut {pins : List (Addr × Obj)} {σ : L2.St} {H : Hp} {s : Shared} {Q : VK} {a : Addr} {xs : List V} {i : Value} {c : Int} (I : Inv X pins σ H s) (here : SqL X.K H a xs) (cut : StepAt s i c) (h : c = 1 ∨ c = -1)
    (q : ∀ p, H p = none → Q (.ref p) (upd H p (.lst (if c = 1 then xs else xs.reverse)))) : wpAny (model X.prog X.w) X.A (getItem (.ref a) i) (EP X pins σ Q) X.xe s := by
  have ⟨us, r, at_a, few⟩ := I.list here
  have ⟨_, _, e, at_i⟩ := cut
  subst e
  have fits : us.toArray.size ≤ sizeLine := Nat.le_trans (Nat.le_of_eq (us.size_toArray.trans r.length.symm)) few
  have turned : Vals (if c = 1 then xs else xs.reverse) (if c = 1 then us else us.reverse) := by
    split
    · exact r
    · exact r.reverse
  have same : (if c = 1 then xs else xs.reverse).length = xs.length := by
    split
    · rfl
    · exact xs.length_reverse
  refine wpAny_getItem_list_slice at_a.isList at_i .none .none (.int c _) (fun z => by rcases h with rfl | rfl <;> cases z) ?_ fits
  rw [pick_way us h]
  have J := I.laid (a := s.heap.objs.size) (o := .lst (if c = 1 then xs else xs.reverse)) (t' := s.toks) (fun _ _ => Heap.get?_push_of_some _) (Nat.le_refl _) ⟨same ▸ few, _, 0, turned, Heap.get?_push_size _ rfl⟩
  exact ⟨.ref _, _, J, rfl, q _ (I.hok.fresh (Nat.le_refl _))⟩
theorem pe_stepL {e st : Expr} {te ts : TE} {p3 pos : Pos} (he : PE X e te) (hs : PE X st ts) : PE X (.Subscript e (.Slice none none (some st) p3) pos) (tStepL X.K te ts) where
  run pins s σ H Q I h := by
    refine Subscript_ (thn (he.run pins s σ H _ I h) ?_)
    rintro v s1 ⟨x, H1, J1, r, more⟩
    refine step_made hs J1 more ?_
    rintro c H2 i s2 J2 cut ⟨a, xs, rfl, way, here, q⟩
    cases r
    have ⟨_, _, at_a, _⟩ := J2.list here
    exact tail_any (ops := [.ref a, i]) at_a.isList.typeIs PySem.slot_list_getitem.lookup (list_cut J2 here cut way q) (by have ⟨_, _, e, _⟩ := cut; subst e; with_unfolding_all rfl)
end
theorem mergeK_pks {gs : List (Int × Int)} (nd : (gs.map (·.1)).Nodup) : mergeK [] (pks gs) = pks gs := by
  suffices h : ∀ (n : Nat), n ≤ gs.length → mergeK [] (pks (gs.take n)) = pks (gs.take n) by
    have := h gs.length (Nat.le_refl _)
    rw [take_full] at this
    exact this
  intro n
  induction n with
  | zero =>
    intro _
    rw [List.take_zero]
    rfl
  | succ n ih =>
    intro hn
    obtain ⟨g, eg⟩ := at_some hn
    have ht : (gs.take n).map (·.1) = (gs.map (·.1)).take n := List.map_take
    have no : g.1 ∉ (gs.take n).map (·.1) := fun m => by
      rw [ht] at m
      have e : (gs.map (·.1))[n]? = some g.1 := by rw [List.getElem?_map, eg]; rfl
      obtain ⟨i, hi⟩ := List.mem_iff_getElem?.mp m
      rw [List.getElem?_take] at hi
      split at hi
      · have := nd_ix nd hi e
        omega
      · cases hi
    rw [take_snoc eg]
    unfold mergeK at ih ⊢
    rw [pks_snoc, List.foldl_append, ih (by omega)]
    show putK (pks (gs.take n)) (Sum.inl g.1) (V.int g.2) = _
    rw [putK_snoc no, pks_snoc]
theorem GsAt.paired {K : PySem.W.Frag} {H : Hp} {B : Addr → Prop} {a : Addr} {ts : List Addr} {gs : List (Int × Int)} (h : GsAt H B a ts gs) : Paired (fun p kv => SqT K H p [kV kv.1, kv.2]) ts (pks gs) := by
  have hl := h.len
  have ha := h.at'
  clear h
  induction ts generalizing gs with
  | nil =>
    cases gs with
    | nil => exact .nil
    | cons g gs => simp at hl
  | cons t ts ih =>
    cases gs with
    | nil => simp at hl
    | cons g gs =>
      refine .cons (SqT.of (ha 0 t g rfl rfl)) (ih (gs := gs) (by simpa using hl) fun i t' g' e1 e2 => ha (i + 1) t' g' (by simpa using e1) (by simpa using e2))
theorem RdAt.of {H : Hp} {a : Addr} {ts : List Addr} {rs : List (List Int)} (h : RdAt H a ts rs) {i : Nat} {r : List Int} (e : rs[i]? = some r) : ∃ t, ts[i]? = some t ∧ H t = some (.lst (r.map V.int)) := by
  have hi := at_lt e
  rw [← h.len] at hi
  obtain ⟨t, e2⟩ := at_some hi
  exact ⟨t, e2, h.at' i t r e2 e⟩
theorem flat_in {rs : List (List Int)} {r : List Int} (m : r ∈ rs) : r.length ≤ rs.flatten.length := room_le_flat rs r m
theorem full_snoc {rs : List (List Int)} {i : Nat} {r : List Int} (e : rs[i]? = some r) : lensD (rs.take (i + 1)) = if r = [] then lensD (rs.take i) else lensD (rs.take i) ++ [(r.length : Int)] := by
  unfold lensD full
  rw [take_snoc e, List.filter_append]
  cases r with
  | nil => rw [List.filter_cons_of_neg (by simp), List.filter_nil, List.append_nil, if_pos rfl]
  | cons x r => rw [List.filter_cons_of_pos (by simp), List.filter_nil, List.map_append, if_neg (by simp)]; rfl
theorem lensD_len (rs : List (List Int)) : (lensD rs).length ≤ rs.length := by
  unfold lensD full
  rw [List.length_map]
  exact List.length_filter_le _ _
end El
namespace El
open PySem PySem.Spec PyProof.Rows L2
/-- [f(x) for x in L], ints to ints -/
theorem lc_ints {K : PySem.W.Frag} {a D : Addr} {L : List Int} {i : Nat} {te : TE} {vs : List Nat} {σ : L2.St} {H1 : Hp} {Qd : Hp → Prop} (f : Int → Int) (hL : H1 a = some (.lst (L.map V.int))) (hD : H1 D = none) (hl : L.length ≤ 1000)
    (he : ∀ (k : Nat) (z : Int) (H' : Hp), L[k]? = some z → Same H1 H' → ∀ Q : VK, Q (.int (f z)) H' → te ((wipe σ vs).set i (some (.int z))) H' Q) (hw : ∀ z : Int, wipe ((wipe σ vs).set i (some (.int z))) vs = wipe σ vs)
    (hd : ∀ H2, Same H1 H2 → H2 D = some (.lst ((L.map f).map V.int)) → Qd H2) :
    ∃ W : Nat → Nat → Hp → Prop, (∃ m, W 0 m (upd H1 D (.lst []))) ∧ ∀ k m H, W k m H →
      ((Itl K a).stop k H ∧ Qd H) ∨ ((Itl K a).go k H ∧ ∃ Nx : Hp → Prop, (∀ H', Nx H' → ∃ m', m' < m ∧ W (k + 1) m' H') ∧ ∀ x H', (Itl K a).yld k H x H' → gName i x (wipe σ vs) H' fun σ2 H2 => wipe σ2 vs = wipe σ vs ∧ tYes σ2 H2 fun b H3 =>
        if b = true then te σ2 H3 fun y H4 => ∃ acc, H4 D = some (.lst acc) ∧ acc.length < sizeLine ∧ Nx (upd H4 D (.lst (acc ++ [y]))) else Nx H3) := by
  refine lc_it (walk_list (xs := L.map V.int)) (fun k H2 => Same H1 H2 ∧ H2 D = some (.lst (((L.take k).map f).map V.int))) ⟨same_new hD, upd_same⟩ (fun k H2 _ hW => ?_) (fun k x H2 H3 hk hW hY => ?_) (fun H2 hW => ?_)
  · exact SqL.of (hW.1 _ _ hL)
  · obtain ⟨sm, e⟩ := hW
    obtain ⟨rfl, hx⟩ := hY
    obtain ⟨z, ez, rfl⟩ := ints_at hx
    refine ⟨hw z, he k z H3 ez sm _ ⟨_, e, ils (by rw [List.length_map, List.length_map, List.length_take]; omega), Same.mut sm hD, ?_⟩⟩
    rw [upd_same, take_snoc ez, List.map_append, List.map_append]
    rfl
  · obtain ⟨sm, e⟩ := hW
    rw [List.length_map, take_full] at e
    exact hd H2 sm e
/-- [f(room) for room in rs], lists of ints to ints -/
theorem lc_rows {K : PySem.W.Frag} {a D : Addr} {us : List Addr} {rs : List (List Int)} {i : Nat} {te : TE} {vs : List Nat} {σ : L2.St} {H1 : Hp} {Qd : Hp → Prop} (f : List Int → Int) (hR : RdAt H1 a us rs) (hD : H1 D = none) (hl : rs.length ≤ 1000)
    (he : ∀ (t : Addr) (r : List Int) (H' : Hp), r ∈ rs → H' t = some (.lst (r.map V.int)) → ∀ Q : VK, Q (.int (f r)) H' → te ((wipe σ vs).set i (some (.ref t))) H' Q) (hw : ∀ t : Addr, wipe ((wipe σ vs).set i (some (.ref t))) vs = wipe σ vs)
    (hd : ∀ H2, Same H1 H2 → H2 D = some (.lst ((rs.map f).map V.int)) → Qd H2) :
    ∃ W : Nat → Nat → Hp → Prop, (∃ m, W 0 m (upd H1 D (.lst []))) ∧ ∀ k m H, W k m H →
      ((Itl K a).stop k H ∧ Qd H) ∨ ((Itl K a).go k H ∧ ∃ Nx : Hp → Prop, (∀ H', Nx H' → ∃ m', m' < m ∧ W (k + 1) m' H') ∧ ∀ x H', (Itl K a).yld k H x H' → gName i x (wipe σ vs) H' fun σ2 H2 => wipe σ2 vs = wipe σ vs ∧ tYes σ2 H2 fun b H3 =>
        if b = true then te σ2 H3 fun y H4 => ∃ acc, H4 D = some (.lst acc) ∧ acc.length < sizeLine ∧ Nx (upd H4 D (.lst (acc ++ [y]))) else Nx H3) := by
  refine lc_it (walk_list (xs := us.map V.ref)) (fun k H2 => Same H1 H2 ∧ H2 D = some (.lst (((rs.take k).map f).map V.int))) ⟨same_new hD, upd_same⟩ (fun k H2 _ hW => ?_) (fun k x H2 H3 hk hW hY => ?_) (fun H2 hW => ?_)
  · exact (hR.same hW.1).seq
  · obtain ⟨sm, e⟩ := hW
    obtain ⟨rfl, hx⟩ := hY
    obtain ⟨t, r, rfl, _, er, et⟩ := (hR.same sm).get hx
    refine ⟨hw t, he t r H3 (List.mem_of_getElem? er) et _ ⟨_, e, ils (by rw [List.length_map, List.length_map, List.length_take]; omega), Same.mut sm hD, ?_⟩⟩
    rw [upd_same, take_snoc er, List.map_append, List.map_append]
    rfl
  · obtain ⟨sm, e⟩ := hW
    rw [List.length_map, hR.len, take_full] at e
    exact hd H2 sm e
end El
namespace El
open PySem PySem.Spec PyProof.Rows L2
/-- [f(a, b) for a, b in gs], pairs of ints to ints -/
theorem lc_prs {K : PySem.W.Frag} {B : Addr → Prop} {a D : Addr} {ts : List Addr} {gs : List (Int × Int)} {i j : Nat} {te : TE} {vs : List Nat} {σ : L2.St} {H1 : Hp} {Qd : Hp → Prop} (f : Int × Int → Int) (hG : GsAt H1 B a ts gs) (hD : H1 D = none) (hl : gs.length ≤ 1000)
    (he : ∀ (z : Int × Int) (H' : Hp), z ∈ gs → Same H1 H' → ∀ Q : VK, Q (.int (f z)) H' → te (((wipe σ vs).set i (some (.int z.1))).set j (some (.int z.2))) H' Q) (hw : ∀ z : Int × Int, wipe (((wipe σ vs).set i (some (.int z.1))).set j (some (.int z.2))) vs = wipe σ vs)
    (hd : ∀ H2, Same H1 H2 → H2 D = some (.lst ((gs.map f).map V.int)) → Qd H2) :
    ∃ W : Nat → Nat → Hp → Prop, (∃ m, W 0 m (upd H1 D (.lst []))) ∧ ∀ k m H, W k m H →
      ((Itl K a).stop k H ∧ Qd H) ∨ ((Itl K a).go k H ∧ ∃ Nx : Hp → Prop, (∀ H', Nx H' → ∃ m', m' < m ∧ W (k + 1) m' H') ∧ ∀ x H', (Itl K a).yld k H x H' → gTup K 2 (gCons (gName i) (gCons (gName j) gNil)) x (wipe σ vs) H' fun σ2 H2 => wipe σ2 vs = wipe σ vs ∧ tYes σ2 H2 fun b H3 =>
        if b = true then te σ2 H3 fun y H4 => ∃ acc, H4 D = some (.lst acc) ∧ acc.length < sizeLine ∧ Nx (upd H4 D (.lst (acc ++ [y]))) else Nx H3) := by
  refine lc_it (walk_list (xs := ts.map V.ref)) (fun k H2 => Same H1 H2 ∧ H2 D = some (.lst (((gs.take k).map f).map V.int))) ⟨same_new hD, upd_same⟩ (fun k H2 _ hW => ?_) (fun k x H2 H3 hk hW hY => ?_) (fun H2 hW => ?_)
  · exact (hG.same hW.1).seq
  · obtain ⟨sm, e⟩ := hW
    obtain ⟨rfl, hx⟩ := hY
    obtain ⟨t, z, rfl, ez, et⟩ := (hG.same sm).get hx
    refine ⟨t, _, rfl, SqT.of et, rfl, .int z.1, _, rfl, .int z.2, _, rfl, rfl, ?_⟩
    refine ⟨hw z, he z H3 (List.mem_of_getElem? ez) sm _ ⟨_, e, ils (by rw [List.length_map, List.length_map, List.length_take]; omega), Same.mut sm hD, ?_⟩⟩
    rw [upd_same, take_snoc ez, List.map_append, List.map_append]
    rfl
  · obtain ⟨sm, e⟩ := hW
    rw [List.length_map, hG.len, take_full] at e
    exact hd H2 sm e
theorem GsAt.top' {H : Hp} {B : Addr → Prop} {a : Addr} {ts : List Addr} {gs : List (Int × Int)} (h : GsAt H B a ts gs) {b : Addr} (e : H b = some (.lst (ts.map V.ref))) : GsAt H (fun _ => True) b ts gs := ⟨e, trivial, h.len, h.at', fun _ _ => trivial⟩
/-- a pair of a list of pairs, by its place -/
theorem GsAt.at_ {H : Hp} {B : Addr → Prop} {a : Addr} {ts : List Addr} {gs : List (Int × Int)} (h : GsAt H B a ts gs) {i : Nat} {g : Int × Int} (e : gs[i]? = some g) : ∃ t, (ts.map V.ref)[i]? = some (.ref t) ∧ H t = some (.tup [.int g.1, .int g.2]) := by
  have hl := at_lt e
  rw [← h.len] at hl
  obtain ⟨t, e2⟩ := at_some hl
  exact ⟨t, by rw [List.getElem?_map, e2]; rfl, h.at' i t g e2 e⟩
theorem pick2 {P : Int → Prop} {a b r : Int} (h0 : 0 ≤ r) (h1 : r < 2) (pa : P a) (pb : P b) : ∃ v : Int, atI [V.int a, .int b] r = some (.int v) ∧ P v := by
  obtain ⟨v, hv, mv⟩ := at_pick (xs := [V.int a, .int b]) h0 h1
  rcases List.mem_cons.mp mv with rfl | mv
  · exact ⟨_, hv, pa⟩
  · obtain rfl := List.mem_singleton.mp mv
    exact ⟨_, hv, pb⟩
theorem pick3 {P : Int → Prop} {a b c r : Int} (h0 : 0 ≤ r) (h1 : r < 3) (pa : P a) (pb : P b) (pc : P c) : ∃ v : Int, atI [V.int a, .int b, .int c] r = some (.int v) ∧ P v := by
  obtain ⟨v, hv, mv⟩ := at_pick (xs := [V.int a, .int b, .int c]) h0 h1
  rcases List.mem_cons.mp mv with rfl | mv
  · exact ⟨_, hv, pa⟩
  rcases List.mem_cons.mp mv with rfl | mv
  · exact ⟨_, hv, pb⟩
  · obtain rfl := List.mem_singleton.mp mv
    exact ⟨_, hv, pc⟩
theorem pick4 {P : Int → Prop} {a b c d r : Int} (h0 : 0 ≤ r) (h1 : r < 4) (pa : P a) (pb : P b) (pc : P c) (pd : P d) : ∃ v : Int, atI [V.int a, .int b, .int c, .int d] r = some (.int v) ∧ P v := by
  obtain ⟨v, hv, mv⟩ := at_pick (xs := [V.int a, .int b, .int c, .int d]) h0 h1
  rcases List.mem_cons.mp mv with rfl | mv
  · exact ⟨_, hv, pa⟩
  rcases List.mem_cons.mp mv with rfl | mv
  · exact ⟨_, hv, pb⟩
  rcases List.mem_cons.mp mv with rfl | mv
  · exact ⟨_, hv, pc⟩
  · obtain rfl := List.mem_singleton.mp mv
    exact ⟨_, hv, pd⟩
theorem pickL {P : Int → Prop} {L : List Int} {r : Int} (h0 : 0 ≤ r) (h1 : r < L.length) (p : ∀ x ∈ L, P x) : ∃ v : Int, atI (L.map V.int) r = some (.int v) ∧ P v := by
  obtain ⟨v, hv, mv⟩ := at_pick (xs := L.map V.int) h0 (by rw [List.length_map]; exact h1)
  obtain ⟨x, mx, rfl⟩ := List.mem_map.mp mv
  exact ⟨x, hv, p x mx⟩
/-- pairs that stand at these, whatever list tells them -/
structure Prs (H : Hp) (ts : List Addr) (gs : List (Int × Int)) : Prop where
  len : ts.length = gs.length
  at' : ∀ (i : Nat) (t : Addr) (g : Int × Int), ts[i]? = some t → gs[i]? = some g → H t = some (.tup [.int g.1, .int g.2])
theorem GsAt.pr {H : Hp} {B : Addr → Prop} {a : Addr} {ts : List Addr} {gs : List (Int × Int)} (h : GsAt H B a ts gs) : Prs H ts gs := ⟨h.len, h.at'⟩
theorem Prs.gs {H : Hp} {a : Addr} {ts : List Addr} {gs : List (Int × Int)} (h : Prs H ts gs) (e : H a = some (.lst (ts.map V.ref))) : GsAt H (fun _ => True) a ts gs := ⟨e, trivial, h.len, h.at', fun _ _ => trivial⟩
theorem Prs.same {H H' : Hp} {ts : List Addr} {gs : List (Int × Int)} (h : Prs H ts gs) (k : Same H H') : Prs H' ts gs := ⟨h.len, fun i t g e f => k _ _ (h.at' i t g e f)⟩
theorem Prs.nil {H : Hp} : Prs H [] [] := ⟨rfl, fun i t g e _ => by simp at e⟩
theorem Prs.cons {H : Hp} {t : Addr} {g : Int × Int} {ts : List Addr} {gs : List (Int × Int)} (e : H t = some (.tup [.int g.1, .int g.2])) (h : Prs H ts gs) : Prs H (t :: ts) (g :: gs) := by
  refine ⟨by rw [List.length_cons, List.length_cons, h.len], fun i u x e1 e2 => ?_⟩
  cases i with
  | zero =>
    obtain rfl : t = u := Option.some.inj e1
    obtain rfl : g = x := Option.some.inj e2
    exact e
  | succ i => exact h.at' i u x (by simpa using e1) (by simpa using e2)
theorem Prs.cat {H : Hp} {ts us : List Addr} {gs hs : List (Int × Int)} (h : Prs H ts gs) (k : Prs H us hs) : Prs H (ts ++ us) (gs ++ hs) := by
  refine ⟨by rw [List.length_append, List.length_append, h.len, k.len], fun i t r e1 e2 => ?_⟩
  by_cases hi : i < ts.length
  · rw [List.getElem?_append_left hi] at e1
    rw [List.getElem?_append_left (by rw [← h.len]; exact hi)] at e2
    exact h.at' i t r e1 e2
  · rw [List.getElem?_append_right (by omega)] at e1
    rw [List.getElem?_append_right (by rw [← h.len]; omega), ← h.len] at e2
    exact k.at' _ t r e1 e2
theorem Prs.take {H : Hp} {ts : List Addr} {gs : List (Int × Int)} (h : Prs H ts gs) (n : Nat) : Prs H (ts.take n) (gs.take n) := by
  refine ⟨by rw [List.length_take, List.length_take, h.len], fun i t r e1 e2 => ?_⟩
  rw [List.getElem?_take] at e1 e2
  split at e1
  · rename_i hi
    rw [if_pos hi] at e2
    exact h.at' i t r e1 e2
  · cases e1
theorem Prs.drop {H : Hp} {ts : List Addr} {gs : List (Int × Int)} (h : Prs H ts gs) (n : Nat) : Prs H (ts.drop n) (gs.drop n) := by
  refine ⟨by rw [List.length_drop, List.length_drop, h.len], fun i t r e1 e2 => ?_⟩
  rw [List.getElem?_drop] at e1 e2
  exact h.at' _ t r e1 e2
theorem cutFrom (xs : List V) (j : Nat) : cutV xs (some (j : Int)) none = xs.drop j := by
  unfold cutV
  rw [HT.sIx_none, HT.sIx_nat]
  show (List.drop (min j xs.length) xs).take (xs.length - min j xs.length) = _
  by_cases h : j ≤ xs.length
  · rw [Nat.min_eq_left h, List.take_of_length_le (by rw [List.length_drop]; omega)]
  · rw [Nat.min_eq_right (by omega), List.drop_of_length_le (Nat.le_refl _), List.drop_of_length_le (show xs.length ≤ j by omega), List.take_nil]
theorem iteX {c : Bool} {A B : Prop} (hc : c = false) (h : B) : if c = true then A else B := by
  rw [hc]
  exact iteF h
theorem nd_self (x : V) : (!decide (x = x)) = false := by rw [decide_eq_true rfl]; rfl
theorem log2_lt {x : Int} {k : Nat} (h0 : 0 ≤ x) (h1 : x < 2 ^ k) (hk : 0 < k) : x.natAbs.log2 < k := by
  by_cases h4 : x.natAbs = 0
  · rw [h4]; exact Nat.lt_of_le_of_lt (by decide) hk
  · refine (Nat.log2_lt h4).mpr ?_
    have : ((x.natAbs : Nat) : Int) < ((2 ^ k : Nat) : Int) := by
      rw [show ((x.natAbs : Nat) : Int) = x by omega]
      exact_mod_cast h1
    exact_mod_cast this
theorem part_at {gs : List (Int × Int)} {i : Nat} {g : Int × Int} (e : gs[i]? = some g) : gs = gs.take i ++ [g] ++ gs.drop (i + 1) := by
  have hi := at_lt e
  have h2 := List.getElem_cons_drop (as := gs) (i := i) hi
  rw [List.getElem?_eq_getElem hi] at e
  rw [Option.some.inj e] at h2
  rw [List.append_assoc]
  show gs = gs.take i ++ (g :: gs.drop (i + 1))
  rw [h2, List.take_append_drop]
theorem rg0 {i : Nat} {x : V} (h : x = V.int (0 + (i : Int))) : x = V.int (i : Int) := by
  rw [h, Int.zero_add]
end El
namespace El
open PySem PySem.Spec PyProof.Rows L2
theorem RmsAt.addN {H : Hp} {B : Addr → Prop} {o u : Addr} {ts : List Addr} {rs : List (List Int)} {r : List Int} (h : RmsAt H B o ts rs) (e : H u = some (.lst (r.map V.int))) (bu : B u) (hu : u ∉ ts) (uo : u ≠ o) :
    RmsAt (upd H o (.lst (ts.map V.ref ++ [.ref u]))) B o (ts ++ [u]) (rs ++ [r]) := by
  have no : ∀ t ∈ ts, t ≠ o := fun t m z => h.no (z ▸ m)
  refine ⟨by rw [upd_same, List.map_append]; rfl, h.bo, ?_, ?_, ?_, fun i t r' e1 e2 => ?_, fun t m => ?_⟩
  · rw [List.nodup_append]
    refine ⟨h.nd, by simp, fun a m b mb => ?_⟩
    rw [List.mem_singleton.mp mb]
    exact fun z => hu (z ▸ m)
  · intro m
    rcases List.mem_append.mp m with m | m
    · exact h.no m
    · exact uo (List.mem_singleton.mp m).symm
  · rw [List.length_append, List.length_append, h.len]
    rfl
  · by_cases hi : i < ts.length
    · rw [List.getElem?_append_left hi] at e1
      rw [List.getElem?_append_left (by rw [← h.len]; exact hi)] at e2
      rw [upd_ne (no t (List.mem_of_getElem? e1))]
      exact h.at' i t r' e1 e2
    · have hi2 := at_lt e1
      rw [List.length_append, List.length_singleton] at hi2
      have : i = ts.length := by omega
      subst this
      rw [List.getElem?_append_right (Nat.le_refl _), Nat.sub_self] at e1
      rw [h.len, List.getElem?_append_right (Nat.le_refl _), Nat.sub_self] at e2
      obtain rfl := Option.some.inj e1
      obtain rfl := Option.some.inj e2
      rw [upd_ne uo]
      exact e
  · rcases List.mem_append.mp m with m | m
    · exact h.b t m
    · rw [List.mem_singleton.mp m]
      exact bu
theorem GsAt.sortedN {H H' : Hp} {B : Addr → Prop} {a p : Addr} {ts : List Addr} {gs : List (Int × Int)} {zs : List V} (h : GsAt H B a ts gs) (k : Same H H') (pm : zs.Perm (ts.map V.ref)) (hz : zs.map (prOf H) = byAge gs) (e : H' p = some (.lst zs)) : ∃ us, GsAt H' (fun _ => True) p us (byAge gs) ∧ zs = us.map V.ref ∧ ∀ u ∈ us, u ∈ ts := by
  have : ∃ us : List Addr, zs = us.map V.ref ∧ ∀ u ∈ us, u ∈ ts := by
    have hm : ∀ z ∈ zs, ∃ t, z = V.ref t ∧ t ∈ ts := fun z m => by
      obtain ⟨t, mt, rfl⟩ := List.mem_map.mp (pm.mem_iff.mp m)
      exact ⟨t, rfl, mt⟩
    clear pm hz e
    induction zs with
    | nil => exact ⟨[], rfl, fun u m => by simp at m⟩
    | cons z zs ih =>
      obtain ⟨t, rfl, mt⟩ := hm z List.mem_cons_self
      obtain ⟨us, rfl, hu⟩ := ih fun y m => hm y (List.mem_cons_of_mem _ m)
      exact ⟨t :: us, rfl, fun u m => by
        rcases List.mem_cons.mp m with rfl | m
        · exact mt
        · exact hu u m⟩
  obtain ⟨us, rfl, hu⟩ := this
  refine ⟨us, ⟨e, trivial, ?_, fun i t g e1 e2 => ?_, fun _ _ => trivial⟩, rfl, hu⟩
  · have := congrArg List.length hz
    rw [List.length_map, List.length_map] at this
    exact this
  · have m := h.mem (.ref t) (pm.mem_iff.mp (List.mem_map.mpr ⟨t, List.mem_of_getElem? e1, rfl⟩))
    obtain ⟨t', et, e3⟩ := m
    injection et with et
    subst et
    have : prOf H (.ref t) = g := by
      have h2 := congrArg (fun l => l[i]?) hz
      rw [List.getElem?_map, List.getElem?_map, e1, e2] at h2
      exact Option.some.inj h2
    rw [this] at e3
    exact k _ _ e3
theorem iteTa {c : Bool} {A B : Prop} (hc : c = true) (h : A) : if c = true then A else B := by rw [if_pos hc]; exact h
end El
namespace El
open PySem PySem.Spec PyProof.Rows L2
/-! ### the program's own errors: InnError over ValueError, and those over InnError, each with what -/
/-- a def that may raise, as callers see it -/
structure DfX (P : Program) (w : World) (K : PySem.W.Frag) (mg : Str → Option Value) (base : Heap) (k : Nat) (x : Str) (ps : List Str) (st : Stmt) (sp : Sp) : Prop where
  ex : ∃ (f : Addr) (fd : FuncData), Fun K x x st f fd ∧ mg x = some (.ref f) ∧ FnOk P w K mg base (L2.CX P w) k f fd ps sp ∧ Binds K fd ps []
theorem At.dfx {P : Program} {w : World} {K : PySem.W.Frag} {mg : Str → Option Value} {base : Heap} {k : Nat} {x : Str} {ps : List Str} {st : Stmt} {sp : Sp} (A : At K mg x ps st)
    (h : ∀ f fd, Fun K x x st f fd → FnOk P w K mg base (L2.CX P w) k f fd ps sp) : DfX P w K mg base k x ps st sp := by
  obtain ⟨f, fd, F, m, b⟩ := A.ex
  exact ⟨f, fd, F, m, h f fd F, b⟩
section
variable {X : Cx} {k : Nat} {x : Str} {ps : List Str} {st : Stmt} {sp : Sp} {p pos : Pos} {e : Expr} {es : List Expr} {kws : List Keyword} {t tk : TA} {W : WX}
/-- f(..) of such a def, what it raises as W tells -/
theorem pe_dfS (D : DfX X.prog X.w X.K X.mg X.base k x ps st sp) (tk : Takes X W) (hr : Room k X.A) (hg : Gl X x) (ha : PA X (e :: es) t) (hdb : (x == ("__debug__" : Str)) = false := by decide)
    (he : starEach (e :: es) X.env = (false, eval e X.env) :: starEach es X.env := by rfl) (hpl : (backTo pos (starEach es X.env)).any (·.1) = false := by rfl) : PE X (.Call (.Name x p) (e :: es) [] pos) (tCallS sp (WE W) t) := by
  obtain ⟨f, fd, F, m, G, b⟩ := D.ex
  exact pe_callS G hr hg m F.kp b (fun σ => passAt tk σ) ha hdb he hpl
/-- f(..) of such a def where nothing is raised -/
theorem pe_dfN (D : DfX X.prog X.w X.K X.mg X.base k x ps st sp) (hr : Room k X.A) (hg : Gl X x) (ha : PA X (e :: es) t) (hdb : (x == ("__debug__" : Str)) = false := by decide)
    (he : starEach (e :: es) X.env = (false, eval e X.env) :: starEach es X.env := by rfl) (hpl : (backTo pos (starEach es X.env)).any (·.1) = false := by rfl) : PE X (.Call (.Name x p) (e :: es) [] pos) (tCall sp [] E0 t) := by
  obtain ⟨f, fd, F, m, G, b⟩ := D.ex
  refine pe_call G hr hg m F.kp b .nil (fun pins σ H s v s' I c => ?_) ha hdb he hpl
  obtain ⟨_, _, _, _, _, _, _, _, _, _, _, _, z⟩ := c
  exact z.elim
def tCallWS (n : Nat) (sp : Sp) (W : WX) (g : List V → List V) (tk : TA) : TE := fun σ H Q => tk σ H fun zs H2 => zs.length = n ∧ sp (g zs) H2 Q (fun cls d H => W cls d σ H)
end
/-! ### InnError.__init__(self, ..) -/
structure InnC (K : PySem.W.Frag) (mg : Str → Option Value) (C0 : Addr) : Prop where
  g : mg "InnError" = some (.ref C0)
  rd : PySem.W.readsIn K C0 (.type "type") = true
  ga : PySem.W.specialIn K (.ref C0) "__getattribute__" = some (some (.builtin "type.__getattribute__"))
  i : PySem.W.findCls K (.ref C0) (.type "type") "__init__" = some (.val (.builtin "ValueError.__init__"))
section
variable {X : Cx} {C0 : Addr} {e : Expr} {es : List Expr} {ta : TA} {p1 p2 pos : Pos}
theorem pe_ownI {pl : Sem Bool} (T : InnC X.K X.mg C0) (ha : PA X (e :: es) ta) (hg : Gl X "InnError" := by rfl)
    (hev : eval (.Call (.Attribute (.Name "InnError" p1) "__init__" p2) (e :: es) [] pos) X.env = (do
      let v0 ← eval (.Name "InnError" p1) X.env
      standAt p2.atName
      let (fn, one) ← holding [v0] (getMethod v0 "__init__" pl)
      callWith pos fn one (backTo pos (starEach (e :: es) X.env)) (backToKw pos (keywordEach [] X.env))) := by rfl)
    (hse : starEach (e :: es) X.env = (false, eval e X.env) :: starEach es X.env := by rfl) (hpl : (backTo pos (starEach es X.env)).any (·.1) = false := by rfl) :
    PE X (.Call (.Attribute (.Name "InnError" p1) "__init__" p2) (e :: es) [] pos) (tVeI X.K ta) := by
  refine ⟨fun pins s σ H Q I h => PySem.W.methodCall_KW (ld_glob I hg T.g ?_) hev⟩
  refine PySem.W.method_cls I.kIn T.ga (PySem.W.cls_value I.kIn T.rd T.i rfl ?_)
  show wpAny _ _ (callWith pos (Value.builtin "ValueError.__init__") [] (backTo pos (starEach (e :: es) X.env)) []) _ _ { s with toks := s.toks + 1 }
  refine PyProof.Rows.callWith_method1 (thn (ha.run pos pins _ σ H _ (I.tok _) h) fun us s1 hh => ?_) hse hpl
  obtain ⟨vs, H1, I1, r1, a, C, ws, rfl, hl, T1, ea, q⟩ := hh
  cases r1 with
  | @cons _ u0 _ ur ra rw' =>
    cases ra
    have hz : ur.length ≤ sizeLine := by
      rw [← Paired.length rw']
      exact ile (Nat.le_trans hl (by decide))
    exact oinit_ok T1 I1 ea hz fun s' J => ⟨.non, H1, J, rfl, q⟩
end
/-! ### what the top says of such a class, x its name -/
structure Own (K : PySem.W.Frag) (mg : Str → Option Value) (x : Str) (C fI : Addr) : Prop where
  g : mg x = some (.ref C)
  o : OexC K C
  xf : XfC K C
  no : PySem.W.findIn K (.ref C) "what" = some none
  iC : PySem.W.findIn K (.ref C) "__init__" = some (some (.ref fI))
  tI : PySem.W.typeIn K (.ref fI) = some (.type "function")
  cl : (PySem.W.clsIn K C).isSome = true
  ac : PySem.W.findIn K (.ref C) "__class__" = some (some (.builtin "object.__class__"))
  mo : PySem.W.mroIn K C (.type "object") = some true
/-- what isinstance leans on -/
structure IsX (K : PySem.W.Frag) : Prop where
  hn : PySem.W.specialIn K (.builtin "object.__class__") "__get__" = some (some (.builtin "getset_descriptor.__get__"))
  ht : PySem.W.takesIn K (.builtin "object.__class__") = some true
/-- isinstance(e, c), e the exception that the suite holds, with its dict at d -/
def rIsD (K : PySem.W.Frag) (D a : Addr) : List V → Hp → VK → Prop := fun xs H Q => ∃ (c : V) (cv : Value) (b : Bool), xs = [.ref a, c] ∧ (∀ u, RelV c u → u = cv) ∧ PySem.W.kitOne K (.ref D) cv = some b ∧ Q (.bl b) H
/-- isinstance(e, (c1, ..)) -/
def rIsT (K : PySem.W.Frag) (D a : Addr) : List V → Hp → VK → Prop := fun xs H Q => ∃ (t : Addr) (cs : List V) (cvs : List Value) (b : Bool), xs = [.ref a, .ref t] ∧ SqT K H t cs ∧ (∀ us, Vals cs us → us = cvs) ∧ PySem.W.kitAny K (.ref D) cvs = some b ∧ Q (.bl b) H
section
variable {X : Cx} {a D : Addr} {d : Option Addr} {oe : Obj} {pn : List (Addr × Obj)} {fI : Addr} {x : Str}
theorem own_inst {pins : List (Addr × Obj)} {σ : L2.St} {H : Hp} {s : Shared} {dd : Addr} {fs : List (Str × V)} (hz : Zc (.ref D) (some dd) oe) (hf : ∃ vs, oe.data = .fields vs) (I : Inv (X.suite a ((a, oe) :: pn)) pins σ H s) (ed : H dd = some (.xd fs)) :
    ∃ od, PySem.W.InstAt s.heap a oe D (some od) := by
  obtain ⟨ha, _⟩ := I.pin (a, oe) (List.mem_append_left _ List.mem_cons_self)
  obtain ⟨vs, hd⟩ := hf
  obtain ⟨mA, hns, _⟩ := (show ObjOk X.prog X.w H s.heap dd (.xd fs) from I.hok dd _ ed)
  obtain ⟨od, ho, _⟩ := lookIn_ns hns
  exact ⟨od, ha, hz.1, by unfold PySem.W.notCls; rw [hd] <;> rfl, by rw [hz.2]; exact ho⟩
theorem own_kit {K : PySem.W.Frag} {mg : Str → Option Value} {od : Option Obj} (T : Own K mg x D fI) (J : IsX K) : PySem.W.KitX K (.ref a) (.ref D) (fun h => PySem.W.InstAt h a oe D od) :=
  PySem.W.kitx_exc T.cl T.xf.ga T.xf.gg T.xf.exC T.ac J.hn J.ht T.mo
theorem call_isD {dd : Addr} (T : Own X.K X.mg x D fI) (J : IsX X.K) (hz : Zc (.ref D) (some dd) oe) (hf : ∃ vs, oe.data = .fields vs) :
    CallR (X.suite a ((a, oe) :: pn)) (.builtin "isinstance") (fun xs H Q => (∃ fs, H dd = some (.xd fs)) ∧ (rIsD X.K D a xs H Q ∨ rIsT X.K D a xs H Q)) := by
  intro pins s σ H xs us Q I r h
  obtain ⟨⟨fs, ed⟩, h⟩ := h
  obtain ⟨od, hI⟩ := own_inst hz hf I ed
  rcases h with ⟨c, cv, b, rfl, hcv, e, q⟩ | ⟨t, cs, cvs, b, rfl, hs, hcs, e, q⟩
  · cases r with
    | cons rx rr =>
      cases rr with
      | cons rt rr =>
        cases rr
        cases rx
        obtain rfl := hcv _ rt
        exact PySem.W.kia_one (own_kit T J) I.kIn hI e (fun z => nomatch z) fun tk => ⟨.bl b, H, I.kept (t' := tk) fun _ _ z => z, rfl, q⟩
  · cases r with
    | cons rx rr =>
      cases rr with
      | cons rt rr =>
        cases rr
        cases rx
        cases rt
        obtain ⟨its, rv, ⟨o, ho, hc, n, hd⟩, _⟩ := I.tuple hs
        obtain rfl := hcs _ rv
        obtain ⟨oc, od', oda, osl⟩ := o
        dsimp only at hc hd
        subst hc hd
        exact PySem.W.kia_tup (own_kit T J) I.kIn hI ho e (fun z => nomatch z) fun tk => ⟨.bl b, H, I.kept (t' := tk) fun _ _ z => z, rfl, q⟩
end
/-- the heap behind C(v): all as it was, the dict alone beside -/
theorem mk_heap {H : Hp} {a d : Addr} {x z : HO} {y u : HO} (ha : H a = none) (hd : d ≠ a) : upd (del (upd (upd (upd H a x) d y) a z) a) d u = upd H d u := by
  funext b
  by_cases h1 : b = d
  · rw [h1, upd_same, upd_same]
  · rw [upd_ne h1, upd_ne h1]
    by_cases h2 : b = a
    · rw [h2, del_same, ha]
    · rw [del_ne h2, upd_ne h2, upd_ne h1, upd_ne h2]
/-- an except clause's class -/
theorem te_of {K : PySem.W.Frag} {C0 C : Addr} (h1 : PySem.W.subIn K (.ref C0) (.type "BaseException") = some true) (hd : PySem.W.hasDictIn K C0 = true) (ht : PySem.W.typeIn K (.ref C0) = some (.type "type")) (h4 : PySem.W.subIn K (.ref C) (.ref C0) = some true) : PySem.W.exmOne K (.ref C) (.ref C0) = some true := PySem.W.exm_ref h1 hd ht h4
/-! ### in a suite: the exception's class known at the reading alone -/
def rIsAny (K : PySem.W.Frag) (mg : Str → Option Value) (a : Addr) (cls : Value) (d : Option Addr) : List V → Hp → VK → Prop := fun xs H Q => ∃ (x : Str) (D fI dd : Addr), cls = .ref D ∧ d = some dd ∧ Own K mg x D fI ∧ IsX K ∧ (∃ fs, H dd = some (.xd fs)) ∧ (rIsD K D a xs H Q ∨ rIsT K D a xs H Q)
def tXfAny (K : PySem.W.Frag) (a : Addr) (cls : Value) (d : Option Addr) (f : Str) (te : TE) : TE := fun σ H Q => ∃ C, XfC K C ∧ PySem.W.findIn K (.ref C) f = some none ∧ tXf a cls d C f te σ H Q
section
variable {X : Cx} {a : Addr} {cls : Value} {d : Option Addr} {oe : Obj} {pn : List (Addr × Obj)}
theorem isAnyK (K : PySem.W.Frag) (mg : Str → Option Value) (hz : Zc cls d oe) (hf : ∃ vs, oe.data = .fields vs) (e : X.K = K := by rfl) (e2 : X.mg = mg := by rfl) : CallR (X.suite a ((a, oe) :: pn)) (.builtin "isinstance") (rIsAny K mg a cls d) := by
  subst e
  subst e2
  intro pins s σ H xs us Q I r h
  obtain ⟨x, D, fI, dd, rfl, rfl, T, J, h1, h2⟩ := h
  exact call_isD T J hz hf pins s σ H xs us Q I r ⟨h1, h2⟩
theorem pe_xfA {e : Expr} {te : TE} {pos : Pos} {n : Str} (K : PySem.W.Frag) (hz : Zc cls d oe) (hf : ∃ vs, oe.data = .fields vs) (he : PE (X.suite a ((a, oe) :: pn)) e te) (eK : X.K = K := by rfl) (hb : attributeBase e n X.env (eval e X.env) = eval e X.env := by rfl) :
    PE (X.suite a ((a, oe) :: pn)) (.Attribute e n pos) (tXfAny K a cls d n te) := by
  subst eK
  refine ⟨fun pins s σ H Q I h => ?_⟩
  obtain ⟨C, T, hno, h⟩ := h
  exact (pe_xf (C := C) T hno hz hf he hb).run pins s σ H Q I h
end
/-- xs.count(y), xs of flat things -/
def rCountF (K : PySem.W.Frag) : V → List V → Hp → VK → Prop := fun x xs H Q => ∃ (a : Addr) (ys : List V) (y : V), x = .ref a ∧ xs = [y] ∧ SqL K H a ys ∧ flatV y = true ∧ ys.all flatV = true ∧ Q (.int ((ys.countP fun z => eqV z y : Nat) : Int)) H
theorem countU {y : V} : ∀ {ys : List V} {its : List Value}, Vals ys its → ys.all flatV = true → its.countP (eqU y) = ys.countP fun z => eqV z y
  | _, _, .nil, _ => rfl
  | _, _, .cons (a := z) (b := u) (l₁ := zs) r t, h => by
    have h' : (flatV z && zs.all flatV) = true := h
    obtain ⟨h1, h2⟩ := Bool.and_eq_true_iff.mp h'
    rw [List.countP_cons, List.countP_cons, countU t h2, eqU_of r h1]
section
variable {X : Cx}
theorem mtCountK (K : PySem.W.Frag) (e : X.K = K := by rfl) : MtR X "list.count" (rCountF K) := by
  subst e
  intro pins s σ H x xs v us Q I rx rxs h
  obtain ⟨a, ys, y, rfl, rfl, hs, fy, fys, q⟩ := h
  cases rx
  obtain ⟨u, rfl, ru⟩ := rxs.one
  obtain ⟨its, rv, ⟨⟨cl, dd, da, sl⟩, n, ho, hc, hdn, hd⟩, hlen⟩ := I.list hs
  dsimp only at hc hd
  subst hc hd
  refine call_meets PySem.F.slot_list_count ⟨_, ho, rfl⟩ PySem.F.entry_list_count (PySem.F.args_list_count_2 _ _) (SeqAt.list_countAt a its.toArray n dd sl u (eqU y)) ⟨ho, fun u' hu' => mem_eqAt ru fy rv fys u' (by simpa using hu'), ?_⟩
  have ec : its.toArray.toList.countP (eqU y) = ys.countP fun z => eqV z y := countU rv fys
  refine ⟨.int ((ys.countP fun z => eqV z y : Nat) : Int), H, I.tok _, ⟨s.toks, ?_⟩, q⟩
  rw [← ec]
theorem mtIndexK (K : PySem.W.Frag) (e : X.K = K := by rfl) : MtR X "list.index" (rIndex K) := by
  subst e
  exact mt_index
end
/-! ### the errors' own __init__ -/
/-- what repr takes here -/
def Rdb (v : V) : Prop := (∃ i : Int, v = .int i ∧ i.natAbs < 10 ^ 200) ∨ ∃ y : Str, v = .str y ∧ (reprText y).length ≤ 100000
theorem text_len {i : Int} (h : i.natAbs < 10 ^ 200) : (Str.ofString (toString i)).length ≤ 201 := by
  by_cases h0 : 0 ≤ i
  · exact Nat.le_succ_of_le (PyProof.Rows.toString_length_le h0 (by decide) (by
      have : ((i.natAbs : Nat) : Int) < ((10 ^ 200 : Nat) : Int) := by exact_mod_cast h
      rw [show ((i.natAbs : Nat) : Int) = i by omega] at this
      exact_mod_cast this))
  · have e := PyProof.Rows.len_text_negI (n := i) (by omega)
    have h2 := PyProof.Rows.toString_length_le (v := 0 - i) (k := 200) (by omega) (by decide) (by
      have : ((i.natAbs : Nat) : Int) < ((10 ^ 200 : Nat) : Int) := by exact_mod_cast h
      rw [show ((i.natAbs : Nat) : Int) = 0 - i by omega] at this
      exact_mod_cast this)
    omega
def sp_init (K : PySem.W.Frag) : Sp := fun vs H Q _ => ∃ (a C : Addr) (v : V), vs = [.ref a, v] ∧ OexC K C ∧ PySem.W.findIn K (.ref C) "what" = some none ∧ H a = some (exo a C none) ∧ Rdb v ∧
  ∀ d, H d = none → d ≠ a → Q .non (upd (upd H d (exd d [(("what" : Str), v)])) a (exo a C (some d)))
/-- such a class with its __init__ -/
structure OwnD (P : Program) (w : World) (K : PySem.W.Frag) (mg : Str → Option Value) (base : Heap) (x : Str) (C : Addr) : Prop where
  ex : ∃ (fI : Addr) (fd : FuncData), Own K mg x C fI ∧ FnOk P w K mg base CX0 1 fI fd ["self", "what"] (sp_init K) ∧ Binds K fd ["self", "what"] []
theorem OwnD.own {P : Program} {w : World} {K : PySem.W.Frag} {mg : Str → Option Value} {base : Heap} {x : Str} {C : Addr} (O : OwnD P w K mg base x C) : ∃ fI, Own K mg x C fI := by
  obtain ⟨fI, _, T, _⟩ := O.ex
  exact ⟨fI, T⟩
theorem OwnD.g {P : Program} {w : World} {K : PySem.W.Frag} {mg : Str → Option Value} {base : Heap} {x : Str} {C : Addr} (O : OwnD P w K mg base x C) : mg x = some (.ref C) := by
  obtain ⟨fI, T⟩ := O.own
  exact T.g
section
variable {X : Cx} {C : Addr} {x : Str} {e : Expr} {es : List Expr} {ta : TA} {W : WX} {p pos pos2 : Pos}
theorem pa_on {σ : L2.St} {H : Hp} {R : List V → Hp → Prop} (ha : PA X es ta) (h : ta σ H R) : PA X es (fun σ' H' Q' => σ' = σ ∧ H' = H ∧ ∀ vs H1, R vs H1 → Q' vs H1) := by
  refine ⟨fun pos pins s σ' H' Q' I h2 => ?_⟩
  obtain ⟨rfl, rfl, h2⟩ := h2
  exact thn (ha.run pos pins s σ' H' R I h) fun us s1 ⟨vs, H1, I1, r1, q⟩ => ⟨vs, H1, I1, r1, h2 vs H1 q⟩
/-- raise C(e) -/
def tRaiseOwn (C : Addr) (W : WX) (ta : TA) : TS := fun _ σ H => ta σ H fun vs H1 => ∃ v, vs = [v] ∧ Rdb v ∧ ∀ d, H1 d = none → W (.ref C) (some d) σ (upd H1 d (.xd [(("what" : Str), v)]))
theorem ps_raiseOwn (O : OwnD X.prog X.w X.K X.mg X.base x C) (hr : Room 2 X.A) (hc : X.calm = true) (tk : Takes X W) (ha : PA X [e] ta) (hg : Gl X x) (hdb : (x == ("__debug__" : Str)) = false := by decide)
    (he : starEach [e] X.env = (false, eval e X.env) :: starEach [] X.env := by rfl) (hpl : (backTo pos (starEach [] X.env)).any (·.1) = false := by rfl) :
    PS X (.Raise (some (.Call (.Name x p) [e] [] pos)) none pos2) (tRaiseOwn C W ta) := by
  obtain ⟨fI, fd, T, F, b⟩ := O.ex
  refine ⟨fun pins s σ H D I h => ?_⟩
  refine (ps_raise hc tk (pmk_oex T.o T.iC T.tI F hr b .nil pass0 hg T.g (pa_on ha h) hdb he hpl)).run pins s σ H D I ⟨rfl, rfl, fun vs H1 ⟨v, ev, rv, q⟩ => ?_⟩
  subst ev
  refine ⟨by show 1 ≤ 1000; decide, fun a na => ⟨a, C, v, rfl, T.o, T.no, upd_same, rv, fun d nd da => ⟨rfl, d, _, upd_same, by rw [upd_ne da, upd_same], ?_, ?_⟩⟩⟩
  · rw [upd_ne da] at nd
    exact nd
  · rw [mk_heap na da]
    exact q d (by rw [upd_ne da] at nd; exact nd)
end
theorem valsRefs : ∀ {l : List Addr} {us : List Value}, Vals (l.map V.ref) us → us = l.map Value.ref
  | [], _, .nil => rfl
  | a :: l, _, .cons r t => by
    obtain rfl : _ = Value.ref a := r
    rw [List.map_cons, valsRefs t]
theorem relRef (a : Addr) : RelV (.ref a) (.ref a) := rfl
theorem bootVE : bootBuiltins "ValueError" = some (.type "ValueError") := by decide +kernel
theorem own_mro (C0 : Addr) : PySem.HandSPX.refsVE [.ref C0, .type "ValueError", .type "Exception", .type "BaseException", .type "object"] = true := by
  show PySem.HandSPX.refsVE [.type "ValueError", .type "Exception", .type "BaseException", .type "object"] = true
  decide +kernel
theorem kit_self {K : PySem.W.Frag} (C : Addr) : PySem.W.kitOne K (.ref C) (.ref C) = some true := by
  unfold PySem.W.kitOne
  rw [if_pos (beq_self_eq_true _)]
theorem kit_no {K : PySem.W.Frag} {C D : Addr} (h : PySem.W.subIn K (.ref C) (.ref D) = some false) (hc : PySem.W.isClsIn K D = true) (ht : PySem.W.typeIn K (.ref D) = some (.type "type")) (ne : C ≠ D) : PySem.W.kitOne K (.ref C) (.ref D) = some false := by
  unfold PySem.W.kitOne
  rw [if_neg (fun z => ne (Value.ref.inj (eq_of_beq z)))]
  have h1 : (PySem.W.clsIn K D).isSome = true := hc
  show (if ((PySem.W.clsIn K D).isSome && PySem.W.typeIn K (.ref D) == some (.type "type")) = true then PySem.W.subIn K (.ref C) (.ref D) else none) = _
  rw [if_pos (by rw [h1, ht]; rfl)]
  exact h
theorem kit_ve {K : PySem.W.Frag} {C : Addr} (h : PySem.W.subIn K (.ref C) (.type "ValueError") = some true) : PySem.W.kitOne K (.ref C) (.type "ValueError") = some true := by
  unfold PySem.W.kitOne
  have hne : ¬ (Value.ref C == Value.type "ValueError") = true := fun z => nomatch (eq_of_beq z)
  rw [if_neg hne]
  show (if PySem.W.kitMeta "ValueError" = true then PySem.W.subIn K (.ref C) (.type "ValueError") else none) = _
  rw [if_pos (by decide +kernel)]
  exact h
theorem kit_none {K : PySem.W.Frag} {t : Value} : ∀ {l : List Value}, (∀ c ∈ l, PySem.W.kitOne K t c = some false) → PySem.W.kitAny K t l = some false
  | [], _ => rfl
  | c :: l, h => by
    unfold PySem.W.kitAny
    rw [h c List.mem_cons_self]
    exact kit_none fun d m => h d (List.mem_cons_of_mem _ m)
end El
namespace El
open PySem PySem.Spec PyProof.Rows L2
/-! ### a def that refuses some things and answers others: both promises put together -/
theorem Df.orx {P : Program} {w : World} {K : PySem.W.Frag} {mg : Str → Option Value} {base : Heap} {j k : Nat} {x : Str} {ps : List Str} {st : Stmt} {sp1 sp2 : Sp} (G : Df P w K mg base j x ps st sp1) (B : DfX P w K mg base k x ps st sp2) (h : j ≤ k) :
    DfX P w K mg base k x ps st (fun vs H Q E => sp1 vs H Q E0 ∨ sp2 vs H Q E) := by
  obtain ⟨f, fd, F, m, G1, b⟩ := G.ex
  obtain ⟨f', fd', F', m', B1, _⟩ := B.ex
  obtain rfl : f = f' := Value.ref.inj (Option.some.inj (m.symm.trans m'))
  have efd : fd = fd' := by
    obtain ⟨_, _, _, _, _, _, _, _, _, rfl, l1, _⟩ := F.ex
    obtain ⟨_, _, _, _, _, _, _, _, _, rfl, l2, _⟩ := F'.ex
    exact Data.func.inj (Obj.mk.inj (Option.some.inj (l1.symm.trans l2))).2.2.1
  subst efd
  refine ⟨f, fd, F, m, ⟨fun vs H Q E hs => hs.elim (G1.len vs H Q E0) (B1.len vs H Q E), fun A outer s H args us vs Q E room ent bound vals want => ?_⟩, b⟩
  rcases want with want | want
  · refine codeAny_mono (G1.run A outer s H args us vs Q E0 (room.mono h) ent bound vals want) fun r s2 told => ?_
    match r, told with
    | .ok (.ret _), told => exact told
    | .error _, told => exact told.elim
  · exact B1.run A outer s H args us vs Q E room ent bound vals want
theorem Df.up {P : Program} {w : World} {K : PySem.W.Frag} {mg : Str → Option Value} {base : Heap} {j k : Nat} {x : Str} {ps : List Str} {st : Stmt} {sp : Sp} (G : Df P w K mg base j x ps st sp) (h : j ≤ k) : Df P w K mg base k x ps st sp := by
  obtain ⟨f, fd, F, m, G1, b⟩ := G.ex
  exact ⟨f, fd, F, m, G1.mono h, b⟩
theorem DfX.up {P : Program} {w : World} {K : PySem.W.Frag} {mg : Str → Option Value} {base : Heap} {j k : Nat} {x : Str} {ps : List Str} {st : Stmt} {sp : Sp} (G : DfX P w K mg base j x ps st sp) (h : j ≤ k) : DfX P w K mg base k x ps st sp := by
  obtain ⟨f, fd, F, m, G1, b⟩ := G.ex
  exact ⟨f, fd, F, m, G1.mono h, b⟩
/-! ### errors whose value is a number, a text, None or a pair of numbers -/
def RdW (H : Hp) (v : V) : Prop := Rdb v ∨ v = .non ∨ ∃ (t : Addr) (i j : Int), v = .ref t ∧ H t = some (.tup [.int i, .int j]) ∧ i.natAbs < 10 ^ 200 ∧ j.natAbs < 10 ^ 200
theorem RdW.same {H H' : Hp} {v : V} (h : RdW H v) (k : Same H H') : RdW H' v := by
  rcases h with h | h | ⟨t, i, j, e, et, hi, hj⟩
  · exact .inl h
  · exact .inr (.inl h)
  · exact .inr (.inr ⟨t, i, j, e, k _ _ et, hi, hj⟩)
theorem two_pair (a b : Str) : (tupleText [a, b]).length = a.length + b.length + 4 := by
  have h := join_length_add [a, b] (List.cons_ne_nil _ _)
  rw [piled_cons, piled_cons, piled_nil] at h
  have o : ("(" : Str).length = 1 := by decide +kernel
  have c : (((if [a, b].length == 1 then ",)" else ")" : String) : Str)).length = 1 := by
    show ((")" : String) : Str).length = 1
    decide +kernel
  unfold tupleText
  rw [Str.length_append, Str.length_append, o, c]
  omega
theorem bits_of {i : Int} (h : i.natAbs < 10 ^ 200) : i.natAbs.log2 < 1920 := by
  by_cases h0 : i.natAbs = 0
  · rw [h0]
    decide
  · exact Nat.lt_trans ((Nat.log2_lt h0).mpr (Nat.lt_trans h (by decide +kernel : 10 ^ 200 < 2 ^ 700))) (by decide)
/-- {x!r}: some text, not too long -/
def tFmtW (te : TE) : TE := fun σ H Q => te σ H fun x H1 => RdW H1 x ∧ ∀ m : Str, m.length ≤ 100000 → Q (.str m) H1
section
variable {X : Cx}
theorem pe_fmtW {e : Expr} {te : TE} {pos : Pos} {k : Nat} (hr : Room k X.A) (he : PE X e te) : PE X (.FormattedValue e 114 none pos) (tFmtW te) := by
  constructor
  intro pins s σ H Q inv asks
  apply wpAny_FormattedValue_repr
  refine wpAny_mono (he.run pins s σ H _ inv asks) (fun v s1 got => ?_) fun _ _ err => err
  obtain ⟨x, H1, I1, r1, hw, q⟩ := got
  have hs : (100000 : Nat) ≤ sizeLine := by decide
  have told : ∀ (m : Str) (u t' : Tok), m.length ≤ 100000 → EP X pins σ Q (.str m u) { s1 with toks := t' } := fun m u t' hm => ⟨.str m, H1, I1.tok _, ⟨u, rfl⟩, q m hm⟩
  rcases hw with (⟨i, rfl, hi⟩ | ⟨y, rfl, hy⟩) | rfl | ⟨t, i, j, rfl, et, hi, hj⟩
  · obtain ⟨t, rfl⟩ := r1
    have hl : (Str.ofString (toString i)).length ≤ 100000 := Nat.le_trans (text_len hi) (by decide)
    exact pyReprObj_int (bits_of hi) (wpAny_formatField_str (told _ _ _ hl) (told _ _ _ hl) (int_text_fits (bits_of hi)))
  · obtain ⟨t, rfl⟩ := r1
    have hz := Nat.le_trans hy hs
    exact pyReprObj_str (wpAny_formatField_str (told _ _ _ hy) (told _ _ _ hy) hz) hz
  · cases r1
    have hl : (("None" : String) : Str).length ≤ 100000 := by decide +kernel
    exact pyReprObj_none (wpAny_formatField_str (told _ _ _ hl) (told _ _ _ hl) (Nat.le_trans hl hs))
  · cases r1
    obtain ⟨its, rv, ⟨o, ho, hcl, n, hd⟩, _⟩ := I1.tuple (SqT.of (K := X.K) et)
    obtain ⟨u1, u2, rfl, r1, r2⟩ := vals2 rv
    obtain ⟨k1, rfl⟩ := r1
    obtain ⟨k2, rfl⟩ := r2
    have hu := hr.units
    have hT : ReprAll X.prog X.w [Value.int i k1, Value.int j k2] [Str.ofString (toString i), Str.ofString (toString j)] := .cons (ReprIs.int k1 (bits_of hi)) (.cons (ReprIs.int k2 (bits_of hj)) .nil)
    have hz : (tupleText [Str.ofString (toString i), Str.ofString (toString j)]).length ≤ 500 := by
      rw [two_pair]
      have := text_len hi
      have := text_len hj
      omega
    refine wpAny_pyReprObj_slot (by omega) ⟨o, ho, hcl⟩ F.slot_tuple_repr (fmt_tuple_repr ho hcl hd hT (Nat.le_trans hz (by decide)) fun m u tk hm => ⟨m, u, rfl, ?_⟩)
    have hl : m.length ≤ 100000 := by omega
    exact wpAny_formatField_str (told _ _ _ hl) (told _ _ _ hl) (Nat.le_trans hl hs)
end
def sp_initW (K : PySem.W.Frag) : Sp := fun vs H Q _ => ∃ (a C : Addr) (v : V), vs = [.ref a, v] ∧ OexC K C ∧ PySem.W.findIn K (.ref C) "what" = some none ∧ H a = some (exo a C none) ∧ RdW H v ∧
  ∀ d, H d = none → d ≠ a → Q .non (upd (upd H d (exd d [(("what" : Str), v)])) a (exo a C (some d)))
structure OwnW (P : Program) (w : World) (K : PySem.W.Frag) (mg : Str → Option Value) (base : Heap) (x : Str) (C : Addr) : Prop where
  ex : ∃ (fI : Addr) (fd : FuncData), Own K mg x C fI ∧ FnOk P w K mg base CX0 1 fI fd ["self", "what"] (sp_initW K) ∧ Binds K fd ["self", "what"] []
theorem OwnW.own {P : Program} {w : World} {K : PySem.W.Frag} {mg : Str → Option Value} {base : Heap} {x : Str} {C : Addr} (O : OwnW P w K mg base x C) : ∃ fI, Own K mg x C fI := by
  obtain ⟨fI, _, T, _⟩ := O.ex
  exact ⟨fI, T⟩
section
variable {X : Cx} {C : Addr} {x : Str} {e : Expr} {ta : TA} {W : WX} {p pos pos2 : Pos}
/-- raise C(e) -/
def tRaiseW (C : Addr) (W : WX) (ta : TA) : TS := fun _ σ H => ta σ H fun vs H1 => ∃ v, vs = [v] ∧ RdW H1 v ∧ ∀ d, H1 d = none → W (.ref C) (some d) σ (upd H1 d (.xd [(("what" : Str), v)]))
theorem ps_raiseW (O : OwnW X.prog X.w X.K X.mg X.base x C) (hr : Room 2 X.A) (hc : X.calm = true) (tk : Takes X W) (ha : PA X [e] ta) (hg : Gl X x) (hdb : (x == ("__debug__" : Str)) = false := by decide)
    (he : starEach [e] X.env = (false, eval e X.env) :: starEach [] X.env := by rfl) (hpl : (backTo pos (starEach [] X.env)).any (·.1) = false := by rfl) :
    PS X (.Raise (some (.Call (.Name x p) [e] [] pos)) none pos2) (tRaiseW C W ta) := by
  obtain ⟨fI, fd, T, F, b⟩ := O.ex
  refine ⟨fun pins s σ H D I h => ?_⟩
  refine (ps_raise hc tk (pmk_oex T.o T.iC T.tI F hr b .nil pass0 hg T.g (pa_on ha h) hdb he hpl)).run pins s σ H D I ⟨rfl, rfl, fun vs H1 ⟨v, ev, rv, q⟩ => ?_⟩
  subst ev
  refine ⟨by show 1 ≤ 1000; decide, fun a na => ⟨a, C, v, rfl, T.o, T.no, upd_same, rv.same (same_new na), fun d nd da => ⟨rfl, d, _, upd_same, by rw [upd_ne da, upd_same], ?_, ?_⟩⟩⟩
  · rw [upd_ne da] at nd
    exact nd
  · rw [mk_heap na da]
    exact q d (by rw [upd_ne da] at nd; exact nd)
end
end El
namespace El
open PySem PySem.Spec PyProof.Rows L2
/-! ### an exception that is kept behind its suite -/
def Exc (a : Addr) (cls : Value) (d : Option Addr) : HO := .ext fun h => ∃ (oe : Obj) (vs : Array Value), h.get? a = some oe ∧ Zc cls d oe ∧ oe.data = .fields vs
/-- what is asked of an exception that comes: it is of the class c, and the suite lets go on, the exception noted -/
def wKept (K : PySem.W.Frag) (c : Value) (i : Nat) (ts : Addr → Value → Option Addr → TS) (D : Ends) : WX := fun cls d σ H =>
  PySem.W.exmOne K cls c = some true ∧ ∀ a, H a = none → ts a cls d { nx := fun σ' H' => D.nx (σ'.set i none) (upd H' a (Exc a cls d)), rt := fun _ _ => False, bk := fun _ _ => False, ct := fun _ _ => False } (σ.set i (some (.ref a))) H
section
variable {X : Cx} {pins : List (Addr × Obj)} {σ : L2.St} {H : Hp} {s : Shared}
/-- one more pin -/
theorem pin_more (I : Inv X pins σ H s) {p : Addr × Obj} (e : s.heap.get? p.1 = some p.2) (n : H p.1 = none) (nl : p.1 ≠ X.env.locals) (nf : p.1 ∉ X.fs) (nc : ∀ v, p.2.data ≠ .cell v) : Inv X (p :: pins) σ H s :=
  I.pins_of fun q m => (List.mem_cons.mp m).elim (fun z => by subst z; exact ⟨e, n, nl, nf, nc⟩) fun z => I.pin q (List.mem_append_right _ z)
/-- a pinned exception is noted -/
theorem note_exc {a : Addr} {oe : Obj} {vs : Array Value} {cls : Value} {d : Option Addr} (I : Inv X ((a, oe) :: pins) σ H s) (hz : Zc cls d oe) (hd : oe.data = .fields vs) (new : ∀ o, X.s_0.heap.get? a = some o → X.H_0 a ≠ none) (apart : ∀ p ∈ X.pn ++ pins, p.1 ≠ a) :
    Inv X pins σ (upd H a (Exc a cls d)) s := by
  obtain ⟨ea, na, nl, nf, nc⟩ := I.pin (a, oe) (List.mem_append_right _ List.mem_cons_self)
  have other : ∀ {b : Addr}, b ≠ a → upd H a (Exc a cls d) b = H b := fun z => upd_ne z
  have dead : ∀ {b : Addr} {u : HO}, H b = some u → b ≠ a := fun e z => by
    rw [z, na] at e
    cases e
  have cells : ∀ y c, X.env.cells.lookup y = some c → c ≠ a := fun y c e1 z => by
    obtain ⟨v, o, e2, e3⟩ := I.cell y c e1
    rw [z, ea] at e2
    exact nc v (by rw [Option.some.inj e2]; exact e3)
  refine { ok := I.ok, os := I.os, bare := I.bare, loc := I.loc, cell := I.cell, len := I.len, base := ⟨I.base.keep, I.base.slot, fun b o e1 e2 e3 => ?_, I.base.there, fun b xs e1 => ?_, fun b o u e1 => ?_, fun b ps e1 => ?_⟩, free := ?_, freeC := fun y c e1 => ?_, pin := fun p m => ?_, hok := fun b u e1 => ?_ }
  · rw [other fun z => new o (z ▸ e1) (z ▸ e2)]
    exact I.base.free b o e1 e2 e3
  · have e2 := I.base.tups b xs e1
    rw [other (dead e2)]
    exact e2
  · have e2 := I.base.frzs b o u e1
    rw [other (dead e2)]
    exact e2
  · obtain ⟨more, e2⟩ := I.base.tbls b ps e1
    exact ⟨more, by rw [other (dead e2)]; exact e2⟩
  · rw [other nl.symm]
    exact I.free
  · rw [other (cells y c e1)]
    exact I.freeC y c e1
  · obtain ⟨p1, p2, p3, p4, p5⟩ := I.pin p ((List.mem_append.mp m).elim (fun z => List.mem_append_left _ z) fun z => List.mem_append_right _ (List.mem_cons_of_mem _ z))
    exact ⟨p1, by rw [other (apart p m)]; exact p2, p3, p4, p5⟩
  · by_cases hb : b = a
    · subst hb
      obtain rfl : Exc b cls d = u := Option.some.inj (upd_same.symm.trans e1)
      exact ⟨⟨oe, vs, ea, hz, hd⟩, ⟨oe, ea⟩, fun h1 h2 ⟨o, v, q1, q2⟩ k => ⟨o, v, k o q1, q2⟩⟩
    · rw [other hb] at e1
      exact (I.hok b u e1).stay (fun _ _ _ q => q) (fun _ q => by rw [other (dead q)]; exact q) fun _ _ q => by rw [other (dead q)]; exact q
end
section
variable {X : Cx} {x n : Str} {c : Value} {i : Nat} {body suite : List Stmt} {b₀ : Stmt} {np pos pos' : Pos} {tb : WX → TS} {ts : Addr → Value → Option Addr → TS}
/-- try: .. except x as n: .., the exception alive behind it -/
theorem ps_try_kept (hs : X.stack = X.env :: X.outer) (hf : X.env.frame = some X.env.locals) (hN : X.N.Nodup) (hi : X.N[i]? = some n) (hln : X.env.kindOf n = some .local) (hc : Names X x c) (hx : X.ex = [])
    (hb : ∀ W pn xe, Takes (X.tr pn xe) W → PassesOwn (model X.prog X.w) X.A X.env xe → PSs (X.tr pn xe) body (tb W))
    (hsu : ∀ a oe cls d pn, Zc cls d oe → (∃ vs, oe.data = .fields vs) → PSs (X.suite a ((a, oe) :: pn)) (b₀ :: suite) (ts a cls d)) :
    PS X (.Try body [.ExceptHandler (some (.Name x np)) (some n) (b₀ :: suite) pos'] [] [] pos) (fun D σ H => tb (wKept X.K c i ts D) D σ H) := by
  constructor
  intro pins s σ H D I asks
  have ok := I.ok
  have frames : X.A.frames = some (X.env :: X.outer) := ok.frames.trans (congrArg some hs)
  apply wpAny_Try_except
  have run := (hb (wKept X.K c i ts D) (X.pn ++ pins) (fun e s₁ => wpAny (model X.prog X.w) X.A (noteFrame e X.env) (fun _ s₂ => wpAny (model X.prog X.w) X.A (setFlight e none) (fun _ s₃ => wpAny (model X.prog X.w) X.A (handleBy e X.env [.ExceptHandler (some (.Name x np)) (some n) (b₀ :: suite) pos']) (SP X pins D) X.xe s₃) X.xe s₂) X.xe s₁) ?air PassesOwn.looking).run [] s σ H D (I.toTry _) asks
  case air =>
    intro u s1 flown
    obtain ⟨a, ground, s0, pins0, σ1, H1, cls, d, rfl, inTry, stays, slots, sky, na, os, bare, hit, go⟩ := flown
    have J : Inv X pins σ1 H1 s0 := inTry.ofTry ok
    have gone : ground.get? a = none := by
      rcases sky with z | z | z
      · exact z.2.1
      · exact z.2.1
      · exact z.2.1
    have apart0 : ∀ {b : Addr} {o : Obj}, s0.heap.get? b = some o → b ∉ frs X.stack → b ≠ a := fun e nb z => by
      have := stays _ _ e nb
      rw [z, gone] at this
      cases this
    have offStack : ∀ {b : Addr}, b ≠ X.env.locals → b ∉ X.fs → b ∉ frs X.stack := fun n1 n2 m => by
      rw [hs] at m
      obtain ⟨e, me, he⟩ := List.mem_filterMap.mp m
      rcases List.mem_cons.mp me with rfl | me
      · rw [hf] at he
        exact n1 (Option.some.inj he).symm
      · exact n2 (List.mem_filterMap.mpr ⟨e, me, he⟩)
    rw [hs] at sky
    change wpAny _ X.A (noteFrame (Value.ref a) X.env) _ _ s1
    apply Sky.land Zc.steady frames hf sky
    intro h3 fly3 slots3
    have J3 : Inv X pins σ1 H1 { s1 with heap := h3 } := J.landed stays fly3.1 (slots.trans slots3) os bare
    obtain ⟨o3, v3, e3, z3, d3⟩ := fly3.there
    have notFrame : ∀ {h : Heap} {o : Obj} {v : Array Value}, h.FunFrames ground (X.env :: X.outer) → h.get? a = some o → o.data = .fields v → a ∉ frs (X.env :: X.outer) := fun ff e dd m => by
      obtain ⟨_, o', e', no⟩ := ff.mem m
      obtain rfl := Option.some.inj (e.symm.trans e')
      exact no _ dd
    have off := notFrame fly3.2.2.1 e3 d3
    have nl : a ≠ X.env.locals := fun z => off (List.mem_filterMap.mpr ⟨X.env, List.mem_cons_self, by rw [hf, z]⟩)
    have nf : a ∉ X.fs := fun m => by
      obtain ⟨e, me, q⟩ := List.mem_filterMap.mp m
      exact off (List.mem_filterMap.mpr ⟨e, List.mem_cons_of_mem _ me, q⟩)
    have inSuite := J3.suite e3 d3 na nl nf
    have new : ∀ o, X.s_0.heap.get? a = some o → X.H_0 a ≠ none := fun o e0 h0 => by
      have := J.base.keep a o e0 h0 nf (by rw [hx]; exact List.not_mem_nil)
      exact apart0 this (offStack nl nf) rfl
    have apart : ∀ p ∈ X.pn ++ pins, p.1 ≠ a := fun p m => by
      obtain ⟨p1, _, p3, p4, _⟩ := J.pin p m
      exact apart0 p1 (offStack p3 p4)
    apply wpAny_handleBy_cons (codeAny_handlers_test ?asked) (by intro q; cases q)
    have kind : PySem.W.Looks (model X.prog X.w) h3 (typeOf (.ref a)) cls := fun A Q E s k q => wpAny_typeOf_ref (k _ _ e3) (by rw [z3.1]; exact q)
    have fits := PySem.W.exm_one (M := model X.prog X.w) J3.kIn kind hit
    have named : ∀ {Q E : Value → Shared → Prop}, Q c { s1 with heap := h3 } → wpAny (model X.prog X.w) (X.A.mark (some (.ref a))) (eval (.Name x np) X.env) Q E { s1 with heap := h3 } := fun {Q E} q => by
      obtain ⟨glob, plain, here | ⟨absent, boot, notName⟩⟩ := hc
      · exact ld_glob (X := X.suite a ((a, o3) :: (X.pn ++ pins))) inSuite glob here q plain
      · exact ld_blt (X := X.suite a ((a, o3) :: (X.pn ++ pins))) inSuite glob absent boot q notName plain
    apply named
    apply fits.here
    apply codeAny_handlers_suite_as
    apply HandSPX.lands_againZ fly3
    intro h4 fly4 slots4
    have J4 : Inv X pins σ1 H1 { s1 with heap := h4 } := J.landed stays fly4.1 ((slots.trans slots3).trans slots4) os bare
    obtain ⟨o4, v4, e4, z4, d4⟩ := fly4.there
    have start4 := J4.suite e4 d4 na nl nf
    apply store_ok (X := X.suite a ((a, o4) :: (X.pn ++ pins))) (v := .ref a) start4 hN hi (.inl hln) rfl ?_ (.inr hln)
    intro s5 I5
    refine wpAny_mono ((hsu a o4 cls d (X.pn ++ pins) z4 ⟨_, d4⟩).run [] s5 _ H1 _ I5 (go a na)) (fun flow s6 told => ?_) fun _ _ no => no.elim
    cases flow with
    | next =>
      obtain ⟨σ6, H6, I6, q6⟩ := told
      have P6 := I6.pin (a, o4) (List.mem_append_left _ List.mem_cons_self)
      exact gone_ok (pin_more (I6.unsuite ok) P6.1 P6.2.1 nl nf P6.2.2.2.2) hN hi hln fun s7 I7 => ⟨_, _, note_exc I7 z4 d4 new apart, q6⟩
    | brk =>
      obtain ⟨_, _, _, no⟩ := told
      exact no.elim
    | cont =>
      obtain ⟨_, _, _, no⟩ := told
      exact no.elim
    | ret u =>
      obtain ⟨_, _, _, _, _, no⟩ := told
      exact no.elim
  refine wpAny_mono run (fun flow s1 told => ?_) fun _ _ err => err
  cases flow with
  | next =>
    obtain ⟨σ1, H1, I1, q1⟩ := told
    exact wpAny_execs_nil ⟨σ1, H1, I1.ofTry ok, q1⟩
  | brk =>
    obtain ⟨σ1, H1, I1, q1⟩ := told
    exact ⟨σ1, H1, I1.ofTry ok, q1⟩
  | cont =>
    obtain ⟨σ1, H1, I1, q1⟩ := told
    exact ⟨σ1, H1, I1.ofTry ok, q1⟩
  | ret u =>
    obtain ⟨v, σ1, H1, I1, r1, q1⟩ := told
    exact ⟨v, σ1, H1, I1.ofTry ok, r1, q1⟩
end
end El
namespace El
open PySem PySem.Spec PyProof.Rows L2
/-! ### such an exception asked: its class, its value -/
/-- of the class at D, its dict at dd with the value v in it -/
structure ExcAt (K : PySem.W.Frag) (mg : Str → Option Value) (H : Hp) (a D : Addr) (v : V) : Prop where
  ex : ∃ (x : Str) (fI dd : Addr), H a = some (Exc a (.ref D) (some dd)) ∧ H dd = some (.xd [(("what" : Str), v)]) ∧ Own K mg x D fI
theorem ExcAt.keep {K : PySem.W.Frag} {mg : Str → Option Value} {H H' : Hp} {a D : Addr} {v : V} (h : ExcAt K mg H a D v) (k : Same H H') : ExcAt K mg H' a D v :=
  let ⟨x, fI, dd, e, ed, O⟩ := h.ex
  ⟨x, fI, dd, k _ _ e, k _ _ ed, O⟩
section
variable {X : Cx} {pins : List (Addr × Obj)} {σ : L2.St} {H : Hp} {s : Shared}
theorem exc_inst {a D dd : Addr} {fs : List (Str × V)} (I : Inv X pins σ H s) (e : H a = some (Exc a (.ref D) (some dd))) (ed : H dd = some (.xd fs)) :
    ∃ (oe : Obj) (od : Obj) (mA : Str → Option Value), PySem.W.InstAt s.heap a oe D (some od) ∧ (∀ f, RelO (fs.lookup f) (mA f)) ∧ ∀ f, PySem.W.lookIn f od = some (mA f) := by
  obtain ⟨⟨oe, vs, here, ⟨hc, hdict⟩, hdata⟩, _⟩ := (show ObjOk X.prog X.w H s.heap a (Exc a (.ref D) (some dd)) from I.hok a _ e)
  obtain ⟨mA, names, rel⟩ := (show ObjOk X.prog X.w H s.heap dd (.xd fs) from I.hok dd _ ed)
  obtain ⟨od, look, same⟩ := lookIn_ns names
  exact ⟨oe, od, mA, ⟨here, hc, by unfold PySem.W.notCls; rw [hdata] <;> rfl, by rw [hdict]; exact look⟩, rel, fun f => same f⟩
/-- isinstance(e, c), isinstance(e, (c1, ..)) -/
def rIsE (K : PySem.W.Frag) (mg : Str → Option Value) : List V → Hp → VK → Prop := fun xs H Q => ∃ (a D : Addr) (v : V), ExcAt K mg H a D v ∧ IsX K ∧ (rIsD K D a xs H Q ∨ rIsT K D a xs H Q)
theorem call_isE (K : PySem.W.Frag) (mg : Str → Option Value) (e : X.K = K := by rfl) (e2 : X.mg = mg := by rfl) : CallR X (.builtin "isinstance") (rIsE K mg) := by
  subst e e2
  intro pins s σ H xs us Q I rel asks
  obtain ⟨a, D, v, ⟨x, fI, dd, ea, ed, T⟩, J, asks⟩ := asks
  obtain ⟨oe, od, mA, here, _, _⟩ := exc_inst I ea ed
  have kit := own_kit (a := a) (oe := oe) (od := some od) T J
  rcases asks with ⟨c, cv, b, rfl, one, told, q⟩ | ⟨t, cs, cvs, b, rfl, tup, all, told, q⟩
  · obtain ⟨u1, u2, rfl, r1, r2⟩ := vals2 rel
    obtain rfl : u1 = Value.ref a := r1
    obtain rfl := one _ r2
    exact PySem.W.kia_one kit I.kIn here told (fun z => nomatch z) fun tk => ⟨.bl b, H, I.kept (t' := tk) fun _ _ z => z, rfl, q⟩
  · obtain ⟨u1, u2, rfl, r1, r2⟩ := vals2 rel
    obtain rfl : u1 = Value.ref a := r1
    obtain rfl : u2 = Value.ref t := r2
    obtain ⟨its, vals, ⟨⟨oc, od', oda, osl⟩, here2, hc, n, hd⟩, _⟩ := I.tuple tup
    obtain rfl := all _ vals
    dsimp only at hc hd
    subst hc hd
    exact PySem.W.kia_tup kit I.kIn here here2 told (fun z => nomatch z) fun tk => ⟨.bl b, H, I.kept (t' := tk) fun _ _ z => z, rfl, q⟩
/-- e.what -/
def tWhat (K : PySem.W.Frag) (mg : Str → Option Value) (te : TE) : TE := fun σ H Q => te σ H fun x H1 => ∃ (a D : Addr) (v : V), x = .ref a ∧ ExcAt K mg H1 a D v ∧ Q v H1
theorem pe_what {e : Expr} {te : TE} {pos : Pos} (K : PySem.W.Frag) (mg : Str → Option Value) (he : PE X e te) (eK : X.K = K := by rfl) (e2 : X.mg = mg := by rfl) (hb : attributeBase e "what" X.env (eval e X.env) = eval e X.env := by rfl) :
    PE X (.Attribute e "what" pos) (tWhat K mg te) := by
  subst eK e2
  constructor
  intro pins s σ H Q I asks
  apply attr_of hb
  refine wpAny_mono (he.run pins s σ H _ I asks) (fun u s1 got => ?_) fun _ _ err => err
  obtain ⟨x, H1, I1, rx, a, D, v, rfl, ⟨xn, fI, dd, ea, ed, T⟩, q⟩ := got
  obtain rfl : u = Value.ref a := rx
  obtain ⟨oe, od, mA, here, rel, same⟩ := exc_inst I1 ea ed
  obtain ⟨u, hu, ru⟩ := RelO.some_of (v := v) (o := mA ("what" : Str)) (by
    have := rel "what"
    exact this)
  exact HandSPX.exc_get I1.kIn here T.xf.ga T.xf.gg T.xf.exC (PySem.W.findObj_own T.xf.hdC T.no rfl (by rw [same, hu])) (handed_of ru) ⟨v, H1, I1.tok _, ru, q⟩
end
end El
namespace El
open PySem PySem.Spec PyProof.Rows L2
/-! ### the first guest that there can't be; the first room with a wrong age in it -/
def BadAt (gs : List (Int × Int)) (i : Nat) : Prop := ∃ g, gs[i]? = some g ∧ (g.2 < 0 ∨ g.1 ∈ (gs.take i).map (·.1))
def FirstBad (gs : List (Int × Int)) (i : Nat) : Prop := BadAt gs i ∧ ∀ j, j < i → ¬ BadAt gs j
theorem fit_of {gs : List (Int × Int)} (h : ∀ i, ¬ BadAt gs i) : Fit gs := by
  refine ⟨?_, fun g m => ?_⟩
  · rw [List.nodup_iff_pairwise_ne, List.pairwise_iff_getElem]
    intro i j hi hj hij z
    rw [List.length_map] at hi hj
    rw [List.getElem_map, List.getElem_map] at z
    refine h j ⟨gs[j], List.getElem?_eq_getElem hj, .inr ?_⟩
    rw [← z]
    refine List.mem_map_of_mem (List.mem_iff_getElem?.mpr ⟨i, ?_⟩)
    rw [List.getElem?_take_of_lt hij, List.getElem?_eq_getElem hi]
  · obtain ⟨i, e⟩ := List.mem_iff_getElem?.mp m
    exact Int.not_lt.mp fun z => h i ⟨g, e, .inl z⟩
theorem Fit.none_bad {gs : List (Int × Int)} (F : Fit gs) (i : Nat) : ¬ BadAt gs i := fun ⟨g, e, h⟩ => by
  rcases h with h | h
  · have := F.pos g (List.mem_of_getElem? e)
    omega
  · exact F.take_no e h
theorem bad_take {gs : List (Int × Int)} {i j : Nat} (h : j < i) (hb : BadAt (gs.take i) j) : BadAt gs j := by
  obtain ⟨g, e, z⟩ := hb
  rw [List.getElem?_take_of_lt h] at e
  rw [List.take_take, Nat.min_eq_left (Nat.le_of_lt h)] at z
  exact ⟨g, e, z⟩
theorem fit_take {gs : List (Int × Int)} {i : Nat} (h : ∀ j, j < i → ¬ BadAt gs j) : Fit (gs.take i) := fit_of fun j hb => by
  have hj : j < i := by
    obtain ⟨g, e, _⟩ := hb
    have := at_lt e
    rw [List.length_take] at this
    omega
  exact h j hj (bad_take hj hb)
/-- what of an arrangement has been gone through is as it should be -/
def Seemly (ages pre : List Int) : Prop := pre.Nodup ∧ ∀ b ∈ pre, b ∈ ages
theorem Seemly.nil (ages : List Int) : Seemly ages [] := ⟨List.nodup_nil, fun b m => by cases m⟩
theorem Seemly.snoc {ages pre : List Int} {a : Int} (h : Seemly ages pre) (h1 : a ∈ ages) (h2 : a ∉ pre) : Seemly ages (pre ++ [a]) := by
  refine ⟨List.nodup_append.mpr ⟨h.1, by simp, fun x hx y hy => ?_⟩, fun b m => ?_⟩
  · rw [List.mem_singleton.mp hy]
    exact fun z => h2 (z ▸ hx)
  · rcases List.mem_append.mp m with m | m
    · exact h.2 b m
    · rw [List.mem_singleton.mp m]
      exact h1
theorem Seemly.len {ages pre : List Int} (h : Seemly ages pre) : pre.length ≤ ages.length := List.Nodup.length_le_of_subset h.1 h.2
theorem Seemly.left {ages pre l : List Int} (h : Seemly ages (pre ++ l)) : Seemly ages pre := ⟨(List.nodup_append.mp h.1).1, fun b m => h.2 b (List.mem_append_left _ m)⟩
theorem Seemly.perm {ages pre : List Int} (h : Seemly ages pre) (nd : ages.Nodup) (hl : ¬ pre.length < ages.length) : pre.Perm ages := by
  refine (List.perm_ext_iff_of_nodup h.1 nd).mpr fun a => ⟨h.2 a, fun m => Classical.byContradiction fun z => ?_⟩
  have := Seemly.len (h.snoc m z)
  rw [List.length_append, List.length_singleton] at this
  omega
/-- the first room in which stands an age that none has, or that stands ahead -/
def FirstOdd (ages : List Int) (rs : List (List Int)) (k : Nat) : Prop := ∃ (r : List Int) (j : Nat) (a : Int), rs[k]? = some r ∧ r[j]? = some a ∧ Seemly ages ((rs.take k).flatten ++ r.take j) ∧ (a ∉ ages ∨ a ∈ (rs.take k).flatten ++ r.take j)
/-- all that stands there is as it should be, but somebody is left out -/
def LeftOut (ages : List Int) (rs : List (List Int)) : Prop := Seemly ages rs.flatten ∧ rs.flatten.length < ages.length
theorem flat_pre {rs : List (List Int)} {k : Nat} {r : List Int} (e : rs[k]? = some r) {i : Nat} (h : i < k) : ∃ l, (rs.take k).flatten = (rs.take (i + 1)).flatten ++ l := by
  have := List.take_append_drop (i + 1) (rs.take k)
  refine ⟨((rs.take k).drop (i + 1)).flatten, ?_⟩
  rw [← List.flatten_append]
  congr 1
  rw [show rs.take (i + 1) = (rs.take k).take (i + 1) by rw [List.take_take, Nat.min_eq_left (by omega)]]
  exact this.symm
/-- behind the first odd one nothing fine goes on: position (i, m) is ahead of it, or it is there -/
theorem odd_ahead {ages : List Int} {rs : List (List Int)} {k j : Nat} {r : List Int} {a : Int} (er : rs[k]? = some r) (ea : r[j]? = some a) (hb : a ∉ ages ∨ a ∈ (rs.take k).flatten ++ r.take j) (hp : Seemly ages ((rs.take k).flatten ++ r.take j))
    {i m : Nat} {s : List Int} {b : Int} (es : rs[i]? = some s) (eb : s[m]? = some b) (hf : Seemly ages ((rs.take i).flatten ++ s.take m)) (hbad : b ∉ ages ∨ b ∈ (rs.take i).flatten ++ s.take m) : i = k ∧ m = j := by
  have one : ∀ {k j : Nat} {r : List Int} {a : Int}, rs[k]? = some r → r[j]? = some a → (a ∉ ages ∨ a ∈ (rs.take k).flatten ++ r.take j) → ∀ {i m : Nat} {s : List Int}, rs[i]? = some s → Seemly ages ((rs.take i).flatten ++ s.take m) → m ≤ s.length → ¬ (k < i ∨ (k = i ∧ j < m)) := fun {k j r a} er ea hb {i m s} es hf hm hlt => by
    have : ∃ l, (rs.take i).flatten ++ s.take m = ((rs.take k).flatten ++ r.take j ++ [a]) ++ l := by
      rcases hlt with h | ⟨rfl, h⟩
      · obtain ⟨l, e⟩ := flat_pre es h
        refine ⟨r.drop (j + 1) ++ l ++ s.take m, ?_⟩
        rw [e, take_snoc_flat er]
        have e2 : r = r.take j ++ [a] ++ r.drop (j + 1) := by
          rw [← take_snoc ea, List.take_append_drop]
        conv => lhs; rw [e2]
        simp
      · obtain rfl : r = s := Option.some.inj (er.symm.trans es)
        refine ⟨(r.take m).drop (j + 1), ?_⟩
        have e2 : r.take m = r.take j ++ [a] ++ (r.take m).drop (j + 1) := by
          rw [← take_snoc ea]
          have := List.take_append_drop (j + 1) (r.take m)
          rw [List.take_take, Nat.min_eq_left (by omega)] at this
          exact this.symm
        conv => lhs; rw [e2]
        simp
    obtain ⟨l, e⟩ := this
    rw [e] at hf
    have hf := hf.left
    rcases hb with hb | hb
    · exact hb (hf.2 a (List.mem_append_right _ (List.mem_singleton.mpr rfl)))
    · exact (List.nodup_append.mp hf.1).2.2 a hb a (List.mem_singleton.mpr rfl) rfl
  have h1 := one er ea hb es hf (Nat.le_of_lt (at_lt eb))
  have h2 := one es eb hbad er hp (Nat.le_of_lt (at_lt ea))
  omega
/-- where something is odd, not all is fine -/
theorem odd_not {ages : List Int} {rs : List (List Int)} {k : Nat} (h : FirstOdd ages rs k) (hf : Seemly ages rs.flatten) : False := by
  obtain ⟨r, j, a, er, ea, _, hb⟩ := h
  rcases hb with hb | hb
  · exact hb (hf.2 a (flat_mem er ea))
  · exact flat_split hf.1 er ea hb
/-- a value that a refusal keeps: a number, None, or two numbers -/
inductive Dv where
  | num (i : Int)
  | non
  | two (i j : Int)
def Dv.is (H : Hp) (v : V) : Dv → Prop
  | .num i => v = .int i
  | .non => v = .non
  | .two i j => ∃ t, v = .ref t ∧ H t = some (.tup [.int i, .int j])
theorem Dv.is.same {H H' : Hp} {v : V} (k : Same H H') : ∀ {x : Dv}, x.is H v → x.is H' v
  | .num _, h => h
  | .non, h => h
  | .two _ _, ⟨t, e, h⟩ => ⟨t, e, k _ _ h⟩
def Dv.d : Dv → PyData
  | .num i => .int i
  | .non => .none
  | .two i j => .tuple [.int i, .int j]
theorem Dv.is.dp {K : PySem.W.Frag} {H : Hp} {v : V} : ∀ {x : Dv}, x.is H v → Dp K H v x.d
  | .num i, h => by
    obtain rfl : v = .int i := h
    exact .int i
  | .non, h => by
    obtain rfl : v = .non := h
    exact .non
  | .two i j, ⟨t, e, h⟩ => by
    subst e
    exact .tup (SqT.of h) (.cons (.int i) (.cons (.int j) .nil))
theorem Dv.oks : ∀ x : Dv, Oks 1 x.d
  | .num i => (Oks.int i).mono (by decide)
  | .non => ⟨rfl, by simp [Dv.d, PyData.depth]⟩
  | .two i j => .tup fun x m => by
    rcases List.mem_cons.mp m with rfl | m
    · exact .int i
    · rw [List.mem_singleton.mp m]
      exact .int j
/-- None, or a word and such a value -/
def dDv : Option (Str × Dv) → PyData
  | none => .none
  | some (s, x) => .tuple [.str s, x.d]
def DvAt (H : Hp) (v : V) : Option (Str × Dv) → Prop
  | none => v = .non
  | some (s, x) => ∃ t u, v = .ref t ∧ H t = some (.tup [.str s, u]) ∧ x.is H u
theorem DvAt.same {H H' : Hp} {v : V} : ∀ {D : Option (Str × Dv)}, DvAt H v D → Same H H' → DvAt H' v D
  | none, h, _ => h
  | some _, ⟨t, u, e, h, hx⟩, k => ⟨t, u, e, k _ _ h, hx.same k⟩
theorem DvAt.dp {K : PySem.W.Frag} {H : Hp} {v : V} : ∀ {D : Option (Str × Dv)}, DvAt H v D → Dp K H v (dDv D)
  | none, h => by
    obtain rfl : v = .non := h
    exact .non
  | some (s, x), ⟨t, u, e, h, hx⟩ => by
    subst e
    exact .tup (SqT.of h) (.cons (.str s) (.cons hx.dp .nil))
theorem Oks.dv {D : Option (Str × Dv)} (h : ∀ s x, D = some (s, x) → PyData.strOk s = true) : Oks 2 (dDv D) := by
  cases D with
  | none => exact ⟨rfl, by simp [dDv, PyData.depth]⟩
  | some p =>
    obtain ⟨s, x⟩ := p
    have hs := h s x rfl
    exact Oks.tup (n := 1) fun y m => by
      rcases List.mem_cons.mp m with rfl | m
      · exact ⟨by simp [PyData.canLay0, hs], by simp [PyData.depth]⟩
      · rw [List.mem_singleton.mp m]
        exact x.oks
end El
namespace El
open PySem PySem.Spec PyProof.Rows L2
section
variable {X : Cx} {k : Nat} {x : Str} {ps : List Str} {st : Stmt} {sp : Sp} {p pos : Pos} {kws : List Keyword} {tkk : TA} {W : WX}
/-- f(k = v, ..) of a def that may refuse -/
theorem pe_dfSK (D : DfX X.prog X.w X.K X.mg X.base k x ps st sp) (tk : Takes X W) (ks : List Str) (g : {α : Type} → List α → List α) (hr : Room k X.A) (hg : Gl X x) (hkw : PK X kws tkk)
    (hb : ∀ (kV doc pm : Value) (an : Option Addr) (cdv ct : Value) (ws : List Value), ws.length = ks.length → bindArgs (PySem.W.fnOf x x (defArgs st) (defBody st) (defScope st) .none kV doc pm an cdv ct) ⟨[], ks.zip ws⟩ = pure (ps.zip (g ws)))
    (hrel : ∀ {zs : List V} {ws : List Value}, Vals zs ws → Vals (g zs) (g ws))
    (named : (backToKw pos (keywordEach kws X.env)).all (·.1.isSome) = true := by rfl) (names : (backToKw pos (keywordEach kws X.env)).filterMap (·.1) = ks := by rfl)
    (hdb : (x == ("__debug__" : Str)) = false := by decide) (bare : ((backTo pos (starEach [] X.env)).any (·.1) || (backToKw pos (keywordEach kws X.env)).any (·.1.isNone)) = false := by rfl) :
    PE X (.Call (.Name x p) [] kws pos) (tCallWS ks.length sp W (fun zs => g zs) tkk) := by
  obtain ⟨f, fd, F, m, G, b⟩ := D.ex
  have kp := F.kp
  constructor
  intro pins s σ H Q I asks
  apply wpAny_Call_Name_kw
  apply ld_glob I hg m _ hdb
  refine PySem.W.callWith_KW0 (h₀ := X.base) I.ok.mod.kin kp named ?_ bare
  refine wpAny_mono (hkw.run pos pins s σ H _ I asks) (fun ws s2 got => ?_) fun _ _ err => err
  obtain ⟨zs, H2, I2, rz, l2, q2⟩ := got
  refine ⟨I2.kIn, ?_⟩
  rw [names]
  have bound : BindsTo s2 fd ⟨[], ks.zip ws⟩ (ps.zip (g ws)) := by
    obtain ⟨oc, od, kV, doc, pm, an, cdv, ct, osl, rfl, look, code⟩ := F.ex
    exact .of_eq (hb kV doc pm an cdv ct ws (rz.length.symm.trans l2))
  refine wpAny_call (codeAny_mono (G.run X.A X.stack s2 H2 ⟨[], ks.zip ws⟩ (g ws) (g zs) Q (WE W σ) hr I2.env0 bound (hrel rz) q2) fun r s3 told => ?_)
  match r, told with
  | .ok (.ret _), told => exact I2.after told
  | .error e, told => exact passAt tk σ pins H2 s2 e s3 I2 told
end
end El
namespace El
open PySem PySem.Spec PyProof.Rows L2
def topS (i : Nat) : Stmt := PySem.Challenge.pw_elderinn_k22_crowds_refused.main.body.getD i (.Pass ⟨0, 0, 0, 0⟩)
end El
namespace El
open PySem PySem.Spec PyProof.Rows L2
section
variable {P : Program} {w : World} {K : PySem.W.Frag} {mg : Str → Option Value} {base : Heap}
abbrev sI_NoCrowd : Stmt := inClass (topS 5) 0
theorem scI_NoCrowd : FnScope ["self", "what"] ["self", "what"] (defScope sI_NoCrowd) := ⟨rfl, rfl, rfl, by decide +kernel, rfl, by decide +kernel, by decide +kernel⟩
theorem own_NoCrowd {C0 C fI : Addr} {fd : FuncData} (T : Own K mg "NoCrowd" C fI) (F : Fun K "__init__" "NoCrowd.__init__" sI_NoCrowd fI fd) (T0 : InnC K mg C0) : OwnW P w K mg base "NoCrowd" C := by
  refine ⟨fI, fd, T, F.ok scI_NoCrowd (fun vs H Q E h => ?_) (fun cdv AA outer s H vs Q E hr h => ?_), F.binds fun _ _ _ _ _ _ us hl => match us, hl with | [_, _], _ => rfl⟩
  · obtain ⟨_, _, _, rfl, _⟩ := h
    rfl
  · obtain ⟨a, D, v, rfl, hC, hw, ha, hv, q⟩ := h
    have nd := scI_NoCrowd.nd
    refine ⟨_, pss_cons (ps_expr (pe_ownI T0 (pa_cons (pv 0) (pa_cons (pe_joined (.cons pe_str (.cons (pe_fmtW hr (pv 1)) .nil))) pa_nil)))) (pss_one (ps_ost (pv 0) (pv 1))), ?_⟩
    refine ⟨.ref a, rfl, ?_⟩
    have last : tOst K "what" (tVar 0) (tVar 1) { nx := fun _ H' => Q .non H', rt := Q } [some (.ref a), some v] H := ⟨v, rfl, .ref a, rfl, a, D, rfl, hC, hw, .inl ⟨ha, q⟩⟩
    refine ⟨_, rfl, (by show _ ≤ sizeLine; decide +kernel), v, rfl, hv, fun m hm => ⟨_, rfl, ?_, a, D, _, rfl, (by show 1 ≤ 1000; decide), hC, ha, last⟩⟩
    rw [PySem.Str.length_append]
    exact Nat.le_trans (Nat.add_le_add (show _ ≤ 1000 by decide +kernel) hm) (by decide)
end
end El
namespace El
open PySem PySem.Spec PyProof.Rows L2
section
variable {P : Program} {w : World} {K : PySem.W.Frag} {mg : Str → Option Value} {base : Heap}
abbrev sI_NoRooms : Stmt := inClass (topS 3) 0
theorem scI_NoRooms : FnScope ["self", "what"] ["self", "what"] (defScope sI_NoRooms) := ⟨rfl, rfl, rfl, by decide +kernel, rfl, by decide +kernel, by decide +kernel⟩
theorem own_NoRooms {C0 C fI : Addr} {fd : FuncData} (T : Own K mg "NoRooms" C fI) (F : Fun K "__init__" "NoRooms.__init__" sI_NoRooms fI fd) (T0 : InnC K mg C0) : OwnW P w K mg base "NoRooms" C := by
  refine ⟨fI, fd, T, F.ok scI_NoRooms (fun vs H Q E h => ?_) (fun cdv AA outer s H vs Q E hr h => ?_), F.binds fun _ _ _ _ _ _ us hl => match us, hl with | [_, _], _ => rfl⟩
  · obtain ⟨_, _, _, rfl, _⟩ := h
    rfl
  · obtain ⟨a, D, v, rfl, hC, hw, ha, hv, q⟩ := h
    have nd := scI_NoRooms.nd
    refine ⟨_, pss_cons (ps_expr (pe_ownI T0 (pa_cons (pv 0) (pa_cons (pe_joined (.cons pe_str (.cons (pe_fmtW hr (pv 1)) .nil))) pa_nil)))) (pss_one (ps_ost (pv 0) (pv 1))), ?_⟩
    refine ⟨.ref a, rfl, ?_⟩
    have last : tOst K "what" (tVar 0) (tVar 1) { nx := fun _ H' => Q .non H', rt := Q } [some (.ref a), some v] H := ⟨v, rfl, .ref a, rfl, a, D, rfl, hC, hw, .inl ⟨ha, q⟩⟩
    refine ⟨_, rfl, (by show _ ≤ sizeLine; decide +kernel), v, rfl, hv, fun m hm => ⟨_, rfl, ?_, a, D, _, rfl, (by show 1 ≤ 1000; decide), hC, ha, last⟩⟩
    rw [PySem.Str.length_append]
    exact Nat.le_trans (Nat.add_le_add (show _ ≤ 1000 by decide +kernel) hm) (by decide)
end
end El
namespace El
open PySem PySem.Spec PyProof.Rows L2
section
variable {P : Program} {w : World} {K : PySem.W.Frag} {mg : Str → Option Value} {base : Heap}
abbrev sI_NoGuest : Stmt := inClass (topS 2) 0
theorem scI_NoGuest : FnScope ["self", "what"] ["self", "what"] (defScope sI_NoGuest) := ⟨rfl, rfl, rfl, by decide +kernel, rfl, by decide +kernel, by decide +kernel⟩
theorem own_NoGuest {C0 C fI : Addr} {fd : FuncData} (T : Own K mg "NoGuest" C fI) (F : Fun K "__init__" "NoGuest.__init__" sI_NoGuest fI fd) (T0 : InnC K mg C0) : OwnW P w K mg base "NoGuest" C := by
  refine ⟨fI, fd, T, F.ok scI_NoGuest (fun vs H Q E h => ?_) (fun cdv AA outer s H vs Q E hr h => ?_), F.binds fun _ _ _ _ _ _ us hl => match us, hl with | [_, _], _ => rfl⟩
  · obtain ⟨_, _, _, rfl, _⟩ := h
    rfl
  · obtain ⟨a, D, v, rfl, hC, hw, ha, hv, q⟩ := h
    have nd := scI_NoGuest.nd
    refine ⟨_, pss_cons (ps_expr (pe_ownI T0 (pa_cons (pv 0) (pa_cons (pe_joined (.cons pe_str (.cons (pe_fmtW hr (pv 1)) .nil))) pa_nil)))) (pss_one (ps_ost (pv 0) (pv 1))), ?_⟩
    refine ⟨.ref a, rfl, ?_⟩
    have last : tOst K "what" (tVar 0) (tVar 1) { nx := fun _ H' => Q .non H', rt := Q } [some (.ref a), some v] H := ⟨v, rfl, .ref a, rfl, a, D, rfl, hC, hw, .inl ⟨ha, q⟩⟩
    refine ⟨_, rfl, (by show _ ≤ sizeLine; decide +kernel), v, rfl, hv, fun m hm => ⟨_, rfl, ?_, a, D, _, rfl, (by show 1 ≤ 1000; decide), hC, ha, last⟩⟩
    rw [PySem.Str.length_append]
    exact Nat.le_trans (Nat.add_le_add (show _ ≤ 1000 by decide +kernel) hm) (by decide)
end
end El
namespace El
/-! ### crowds: what rooms become when so many of the same patience come -/
/-- one comes who bears p -/
def sit (p : Int) : List Int → List Int
  | [] => [1]
  | s :: L => if s ≤ p then (s + 1) :: L else s :: sit p L
def sitN (p : Int) : Nat → List Int → List Int
  | 0, L => L
  | n + 1, L => sitN p n (sit p L)
def plc (z p : Int) : Int := max 0 (p + 1 - z)
/-- so many fill room after room -/
def pour (p : Int) : Int → List Int → List Int
  | _, [] => []
  | n, s :: L => (s + min n (plc s p)) :: pour p (n - min n (plc s p)) L
def ex (R : List (Int × Int)) : List Int := R.flatMap fun r => List.replicate r.2.toNat r.1
def grownR (z c p k : Int) : List (Int × Int) := if k = 0 then [(z, c)] else if k % plc z p = 0 then [(p + 1, k / plc z p), (z, c - k / plc z p)] else [(p + 1, k / plc z p), (z + k % plc z p, 1), (z, c - k / plc z p - 1)]
theorem plc_nn (z p : Int) : 0 ≤ plc z p := by
  unfold plc
  omega
theorem pour_0 (p : Int) : ∀ X : List Int, pour p 0 X = X
  | [] => rfl
  | s :: L => by
    have := plc_nn s p
    rw [pour, show min 0 (plc s p) = 0 by omega, show (0 : Int) - 0 = 0 from rfl, pour_0 p L, Int.add_zero]
theorem pour_step {p : Int} : ∀ {X : List Int} {n : Int}, 0 ≤ n → (∃ s ∈ X, s ≤ p) → pour p (n + 1) X = pour p n (sit p X)
  | [], _, _, h => by
    obtain ⟨_, m, _⟩ := h
    cases m
  | s :: L, n, hn, h => by
    unfold sit
    by_cases hs : s ≤ p
    · rw [if_pos hs, pour, pour]
      have e1 : plc s p = p + 1 - s := by
        unfold plc
        omega
      have e2 : plc (s + 1) p = p - s := by
        unfold plc
        omega
      rw [e1, e2, show s + min (n + 1) (p + 1 - s) = s + 1 + min n (p - s) by omega, show n + 1 - min (n + 1) (p + 1 - s) = n - min n (p - s) by omega]
    · rw [if_neg hs, pour, pour]
      have e1 : plc s p = 0 := by
        unfold plc
        omega
      obtain ⟨y, m, hy⟩ := h
      have m' : y ∈ L := by
        rcases List.mem_cons.mp m with z | z
        · exact absurd (z ▸ hy) hs
        · exact z
      rw [e1, show min (n + 1) 0 = 0 by omega, show min n 0 = 0 by omega, show n + 1 - 0 = n + 1 by omega, show n - 0 = n by omega, pour_step hn ⟨y, m', hy⟩]
theorem sit_pad {p : Int} (hp : 0 ≤ p) (m : Nat) : ∀ L : List Int, ∃ m' : Nat, m ≤ m' ∧ sit p (L ++ List.replicate (m + 1) 0) = sit p L ++ List.replicate m' 0
  | [] => ⟨m, Nat.le_refl _, by
    rw [List.nil_append, List.replicate_succ]
    unfold sit
    rw [if_pos hp]
    rfl⟩
  | s :: L => by
    rw [List.cons_append]
    unfold sit
    by_cases hs : s ≤ p
    · rw [if_pos hs, if_pos hs]
      exact ⟨m + 1, Nat.le_succ _, rfl⟩
    · rw [if_neg hs, if_neg hs]
      obtain ⟨m', h1, h2⟩ := sit_pad hp m L
      exact ⟨m', h1, by rw [h2]; rfl⟩
def pos (X : List Int) : List Int := X.filter fun s => decide (0 < s)
theorem pos_all {L : List Int} (h : ∀ s ∈ L, 0 < s) : pos L = L := List.filter_eq_self.mpr fun s m => decide_eq_true (h s m)
theorem pos_pad {L : List Int} (h : ∀ s ∈ L, 0 < s) (m : Nat) : pos (L ++ List.replicate m 0) = L := by
  unfold pos
  rw [List.filter_append]
  rw [show L.filter (fun s => decide (0 < s)) = L from pos_all h]
  rw [List.filter_eq_nil_iff.mpr fun s ms => by rw [(List.mem_replicate.mp ms).2]; decide, List.append_nil]
theorem sit_pos {p : Int} : ∀ {L : List Int}, (∀ s ∈ L, 0 < s) → ∀ s ∈ sit p L, 0 < s
  | [], _, s, m => by
    rw [List.mem_singleton.mp m]
    decide
  | x :: L, h, s, m => by
    unfold sit at m
    have hx := h x List.mem_cons_self
    by_cases c : x ≤ p
    · rw [if_pos c] at m
      rcases List.mem_cons.mp m with z | z
      · omega
      · exact h s (List.mem_cons_of_mem _ z)
    · rw [if_neg c] at m
      rcases List.mem_cons.mp m with z | z
      · omega
      · exact sit_pos (fun y my => h y (List.mem_cons_of_mem _ my)) s z
theorem sitN_pos {p : Int} : ∀ {n : Nat} {L : List Int}, (∀ s ∈ L, 0 < s) → ∀ s ∈ sitN p n L, 0 < s
  | 0, _, h => h
  | n + 1, L, h => sitN_pos (n := n) (L := sit p L) (sit_pos h)
theorem pour_sit {p : Int} (hp : 0 ≤ p) : ∀ {n m : Nat} {L : List Int}, n ≤ m → (∀ s ∈ L, 0 < s) → pos (pour p n (L ++ List.replicate m 0)) = sitN p n L
  | 0, m, L, _, h => by
    rw [show ((0 : Nat) : Int) = 0 from rfl, pour_0, pos_pad h]
    rfl
  | n + 1, m, L, hm, h => by
    obtain ⟨k, rfl⟩ : ∃ k, m = k + 1 := ⟨m - 1, by omega⟩
    rw [show ((n + 1 : Nat) : Int) = (n : Int) + 1 from rfl, pour_step (by omega) ⟨0, List.mem_append_right _ (List.mem_replicate.mpr ⟨by omega, rfl⟩), hp⟩]
    obtain ⟨m', h1, h2⟩ := sit_pad hp k L
    rw [h2, pour_sit hp (by omega) (sit_pos h)]
    rfl
/-- from the fullest on -/
def Dn (L : List Int) : Prop := L.Pairwise fun a b => b ≤ a
theorem sit_mem {p : Int} : ∀ {L : List Int} {y : Int}, y ∈ sit p L → y ∈ L ∨ y ≤ p + 1 ∨ y = 1
  | [], y, m => .inr (.inr (List.mem_singleton.mp m))
  | s :: L, y, m => by
    unfold sit at m
    by_cases c : s ≤ p
    · rw [if_pos c] at m
      rcases List.mem_cons.mp m with z | z
      · exact .inr (.inl (by omega))
      · exact .inl (List.mem_cons_of_mem _ z)
    · rw [if_neg c] at m
      rcases List.mem_cons.mp m with z | z
      · exact .inl (z ▸ List.mem_cons_self)
      · exact (sit_mem z).elim (fun w => .inl (List.mem_cons_of_mem _ w)) .inr
theorem sit_dn {p : Int} (hp : 0 ≤ p) : ∀ {L : List Int}, Dn L → Dn (sit p L)
  | [], _ => List.pairwise_singleton _ _
  | s :: L, h => by
    have ⟨h1, h2⟩ := List.pairwise_cons.mp h
    unfold sit
    by_cases c : s ≤ p
    · rw [if_pos c]
      exact List.pairwise_cons.mpr ⟨fun y m => by have := h1 y m; omega, h2⟩
    · rw [if_neg c]
      refine List.pairwise_cons.mpr ⟨fun y m => ?_, sit_dn hp h2⟩
      rcases sit_mem m with z | z | z
      · exact h1 y z
      · omega
      · omega
theorem sitN_dn {p : Int} (hp : 0 ≤ p) : ∀ {n : Nat} {L : List Int}, Dn L → Dn (sitN p n L)
  | 0, _, h => h
  | n + 1, L, h => sitN_dn hp (n := n) (L := sit p L) (sit_dn hp h)
theorem ex_nil : ex [] = [] := rfl
theorem ex_cons (r : Int × Int) (R : List (Int × Int)) : ex (r :: R) = List.replicate r.2.toNat r.1 ++ ex R := List.flatMap_cons
theorem ex_append (R S : List (Int × Int)) : ex (R ++ S) = ex R ++ ex S := List.flatMap_append
theorem grown_more {z c p k : Int} (hb : 0 < plc z p) (hk : 0 ≤ k) (hc : 0 ≤ c) (h : k ≤ c * plc z p) : ex (grownR z (c + 1) p (k + plc z p)) = (p + 1) :: ex (grownR z c p k) := by
  unfold grownR
  have hd : (k + plc z p) / plc z p = k / plc z p + 1 := Int.add_ediv_of_dvd_right (Int.dvd_refl _) |>.trans (by rw [Int.ediv_self (by omega)])
  have hm : (k + plc z p) % plc z p = k % plc z p := Int.add_emod_right ..
  have hq : 0 ≤ k / plc z p := Int.ediv_nonneg hk (by omega)
  rw [if_neg (show ¬ k + plc z p = 0 by omega), hd, hm]
  have e1 : (k / plc z p + 1).toNat = (k / plc z p).toNat + 1 := by omega
  by_cases k0 : k = 0
  · rw [if_pos k0, k0, Int.zero_emod, Int.zero_ediv, if_pos rfl]
    simp only [ex_cons, ex_nil, List.append_nil]
    rw [show c + 1 - (0 + 1) = c by omega]
    rfl
  · rw [if_neg k0]
    by_cases k1 : k % plc z p = 0
    · rw [if_pos k1, if_pos k1]
      simp only [ex_cons, ex_nil, List.append_nil]
      rw [e1, show c + 1 - (k / plc z p + 1) = c - k / plc z p by omega, List.replicate_succ]
      rfl
    · rw [if_neg k1, if_neg k1]
      simp only [ex_cons, ex_nil, List.append_nil]
      rw [e1, show c + 1 - (k / plc z p + 1) - 1 = c - k / plc z p - 1 by omega, List.replicate_succ]
      rfl
theorem pour_run {p z : Int} : ∀ {c : Nat} {n : Int} {X : List Int}, 0 ≤ n → pour p n (List.replicate c z ++ X) = ex (grownR z c p (min n (c * plc z p))) ++ pour p (n - min n (c * plc z p)) X
  | 0, n, X, hn => by
    rw [show ((0 : Nat) : Int) * plc z p = 0 by simp, show min n 0 = 0 by omega, show n - 0 = n by omega]
    rfl
  | c + 1, n, X, hn => by
    have hb := plc_nn z p
    rw [List.replicate_succ, List.cons_append, pour]
    have hcb : 0 ≤ (c : Int) * plc z p := Int.mul_nonneg (by omega) hb
    have hs : ((c + 1 : Nat) : Int) * plc z p = c * plc z p + plc z p := by
      rw [show ((c + 1 : Nat) : Int) = (c : Int) + 1 from rfl, Int.add_mul, Int.one_mul]
    rw [hs]
    by_cases b0 : plc z p = 0
    · rw [pour_run (by omega), b0]
      rw [show (c : Int) * 0 + 0 = 0 by simp, show (c : Int) * 0 = 0 by simp, show min n 0 = 0 by omega, show n - 0 = n by omega, show min n 0 = 0 by omega, show n - 0 = n by omega]
      show (z + 0) :: (ex [(z, (c : Int))] ++ pour p n X) = ex [(z, ((c + 1 : Nat) : Int))] ++ pour p n X
      rw [ex_cons, ex_cons, ex_nil, List.append_nil, List.append_nil]
      show (z + 0) :: (List.replicate c z ++ pour p n X) = List.replicate (c + 1) z ++ pour p n X
      rw [Int.add_zero, List.replicate_succ]
      rfl
    · by_cases hnb : plc z p ≤ n
      · rw [show min n (plc z p) = plc z p by omega, pour_run (by omega)]
        have e2 : z + plc z p = p + 1 := by
          unfold plc at b0 ⊢
          omega
        rw [e2, show min n (c * plc z p + plc z p) = min (n - plc z p) (c * plc z p) + plc z p by omega]
        have e3 := grown_more (z := z) (c := (c : Int)) (p := p) (k := min (n - plc z p) (c * plc z p)) (by omega) (by omega) (by omega) (by omega)
        rw [show ((c + 1 : Nat) : Int) = (c : Int) + 1 from rfl, e3, show n - (min (n - plc z p) (c * plc z p) + plc z p) = n - plc z p - min (n - plc z p) (c * plc z p) by omega]
        rfl
      · rw [show min n (plc z p) = n by omega, show min n (c * plc z p + plc z p) = n by omega, show n - n = 0 by omega, pour_0, pour_0]
        unfold grownR
        by_cases n0 : n = 0
        · rw [if_pos n0, n0, ex_cons, ex_nil, List.append_nil]
          show (z + 0) :: (List.replicate c z ++ X) = List.replicate (c + 1) z ++ X
          rw [Int.add_zero, List.replicate_succ]
          rfl
        · have e1 : n % plc z p = n := Int.emod_eq_of_lt hn (by omega)
          have e2 : n / plc z p = 0 := Int.ediv_eq_zero_of_lt hn (by omega)
          rw [if_neg n0, e1, if_neg n0, e2]
          simp only [ex_cons, ex_nil, List.append_nil]
          rw [show ((c + 1 : Nat) : Int) - 0 - 1 = (c : Int) by omega]
          rfl
/-- a list of sizes, told as how many there are of each -/
structure Rle (R : List (Int × Int)) (L : List Int) : Prop where
  e : L = ex R
  d : R.Pairwise fun a b => b.1 < a.1
  p : ∀ r ∈ R, 0 < r.1 ∧ 0 < r.2
theorem ex_mem {R : List (Int × Int)} {y : Int} (m : y ∈ ex R) : ∃ r ∈ R, r.1 = y := by
  obtain ⟨r, mr, my⟩ := List.mem_flatMap.mp m
  exact ⟨r, mr, (List.mem_replicate.mp my).2.symm⟩
theorem ex_dn : ∀ {R : List (Int × Int)}, (R.Pairwise fun a b => b.1 < a.1) → Dn (ex R)
  | [], _ => .nil
  | r :: R, h => by
    have ⟨h1, h2⟩ := List.pairwise_cons.mp h
    rw [ex_cons]
    refine List.pairwise_append.mpr ⟨List.pairwise_replicate.mpr (.inr (Int.le_refl _)), ex_dn h2, fun a ma b mb => ?_⟩
    rw [(List.mem_replicate.mp ma).2]
    obtain ⟨x, mx, ex_⟩ := ex_mem mb
    have := h1 x mx
    omega
/-- how many of this size -/
def cnt (R : List (Int × Int)) (z : Int) : Int := ((ex R).count z : Nat)
theorem cnt_nil (z : Int) : cnt [] z = 0 := rfl
theorem cnt_append (R S : List (Int × Int)) (z : Int) : cnt (R ++ S) z = cnt R z + cnt S z := by
  unfold cnt
  rw [ex_append, List.count_append]
  rfl
theorem cnt_one (y c z : Int) (hc : 0 ≤ c) : cnt [(y, c)] z = if y = z then c else 0 := by
  unfold cnt
  rw [ex_cons, ex_nil, List.append_nil, List.count_replicate]
  by_cases h : y = z
  · rw [if_pos h, if_pos (by simp [h])]
    show ((c.toNat : Nat) : Int) = c
    omega
  · rw [if_neg h, if_neg (by simp [h])]
    rfl
theorem dn_eq : ∀ {L M : List Int}, Dn L → Dn M → L.Perm M → L = M
  | [], M, _, _, h => (List.nil_perm.mp h).symm
  | x :: L, [], _, _, h => (List.cons_ne_nil _ _ (List.perm_nil.mp h)).elim
  | x :: L, y :: M, h1, h2, h => by
    have ⟨a1, a2⟩ := List.pairwise_cons.mp h1
    have ⟨b1, b2⟩ := List.pairwise_cons.mp h2
    have e : x = y := by
      rcases List.mem_cons.mp (h.mem_iff.mp List.mem_cons_self) with z | z
      · exact z
      rcases List.mem_cons.mp (h.mem_iff.mpr List.mem_cons_self) with w | w
      · exact w.symm
      · have := b1 x z
        have := a1 y w
        omega
    subst e
    rw [dn_eq a2 b2 (List.Perm.cons_inv h)]
end El
namespace El
open PySem PySem.Spec PyProof.Rows L2
/-! ### a dict that counts -/
def putG (gs : List (Int × Int)) (z v : Int) : List (Int × Int) := if z ∈ gs.map (·.1) then gs.map (fun g => if g.1 = z then (g.1, v) else g) else gs ++ [(z, v)]
theorem putG_pks (gs : List (Int × Int)) (z v : Int) : putK (pks gs) (Sum.inl z : L2.Key) (V.int v) = pks (putG gs z v) := by
  have e : (pks gs).any (fun kv => decide (kv.1 = (Sum.inl z : L2.Key))) = decide (z ∈ gs.map (·.1)) := by
    induction gs with
    | nil => rfl
    | cons g gs ih =>
      show (decide ((Sum.inl g.1 : L2.Key) = Sum.inl z) || (pks gs).any (fun kv => decide (kv.1 = (Sum.inl z : L2.Key)))) = decide (z ∈ g.1 :: gs.map (·.1))
      rw [ih]
      by_cases h : g.1 = z
      · rw [h]
        simp
      · rw [decide_eq_false (show ¬ (Sum.inl g.1 : L2.Key) = Sum.inl z from fun y => h (Sum.inl.inj y)), Bool.false_or]
        refine decide_eq_decide.mpr ⟨fun m => List.mem_cons_of_mem _ m, fun m => ?_⟩
        rcases List.mem_cons.mp m with y | y
        · exact absurd y.symm h
        · exact y
  unfold putK putG
  rw [e]
  by_cases h : z ∈ gs.map (·.1)
  · rw [if_pos (decide_eq_true h), if_pos h]
    show (gs.map fun g => ((Sum.inl g.1 : L2.Key), V.int g.2)).map _ = (gs.map _).map _
    rw [List.map_map, List.map_map]
    refine List.map_congr_left fun g _ => ?_
    show (if (Sum.inl g.1 : L2.Key) = Sum.inl z then ((Sum.inl g.1 : L2.Key), V.int v) else (Sum.inl g.1, V.int g.2)) = (Sum.inl (if g.1 = z then (g.1, v) else g).1, V.int (if g.1 = z then (g.1, v) else g).2)
    by_cases y : g.1 = z
    · rw [if_pos (by rw [y]), if_pos y]
    · rw [if_neg (fun k => y (Sum.inl.inj k)), if_neg y]
  · rw [if_neg (by rw [decide_eq_true_iff]; exact h), if_neg h]
    rw [pks_snoc]
theorem putG_keys (gs : List (Int × Int)) (z v : Int) : (putG gs z v).map (·.1) = if z ∈ gs.map (·.1) then gs.map (·.1) else gs.map (·.1) ++ [z] := by
  unfold putG
  by_cases h : z ∈ gs.map (·.1)
  · rw [if_pos h, if_pos h, List.map_map]
    refine List.map_congr_left fun g _ => ?_
    show (if g.1 = z then (g.1, v) else g).1 = g.1
    split <;> rfl
  · rw [if_neg h, if_neg h, List.map_append]
    rfl
theorem putG_nd {gs : List (Int × Int)} {z v : Int} (nd : (gs.map (·.1)).Nodup) : ((putG gs z v).map (·.1)).Nodup := by
  rw [putG_keys]
  by_cases h : z ∈ gs.map (·.1)
  · rw [if_pos h]
    exact nd
  · rw [if_neg h]
    exact List.nodup_append.mpr ⟨nd, by simp, fun a ha b hb => by
      rw [List.mem_singleton.mp hb]
      exact fun e => h (e ▸ ha)⟩
theorem pof_nil (a : Int) : pof [] a = 0 := rfl
theorem pof_cons (g : Int × Int) (gs : List (Int × Int)) (a : Int) : pof (g :: gs) a = if g.1 = a then g.2 else pof gs a := by
  unfold pof
  rw [List.find?_cons]
  by_cases h : g.1 = a
  · simp [h]
  · simp [h]
theorem pof_out : ∀ {gs : List (Int × Int)} {a : Int}, a ∉ gs.map (·.1) → pof gs a = 0
  | [], _, _ => rfl
  | g :: gs, a, h => by
    rw [pof_cons, if_neg (show ¬ g.1 = a from fun e => h (by rw [← e]; exact List.mem_cons_self)), pof_out fun m => h (List.mem_cons_of_mem _ m)]
theorem pof_append_out : ∀ {gs hs : List (Int × Int)} {a : Int}, a ∉ gs.map (·.1) → pof (gs ++ hs) a = pof hs a
  | [], _, _, _ => rfl
  | g :: gs, hs, a, h => by
    rw [List.cons_append, pof_cons, if_neg (show ¬ g.1 = a from fun e => h (by rw [← e]; exact List.mem_cons_self)), pof_append_out fun m => h (List.mem_cons_of_mem _ m)]
theorem pof_append_in : ∀ {gs hs : List (Int × Int)} {a : Int}, a ∈ gs.map (·.1) → pof (gs ++ hs) a = pof gs a
  | [], _, _, h => (List.not_mem_nil h).elim
  | g :: gs, hs, a, h => by
    rw [List.cons_append, pof_cons, pof_cons]
    by_cases e : g.1 = a
    · rw [if_pos e, if_pos e]
    · rw [if_neg e, if_neg e]
      rcases List.mem_cons.mp h with y | y
      · exact absurd y.symm e
      · exact pof_append_in y
theorem putG_pof (gs : List (Int × Int)) (z v y : Int) : pof (putG gs z v) y = if y = z then v else pof gs y := by
  unfold putG
  by_cases h : z ∈ gs.map (·.1)
  · rw [if_pos h]
    induction gs with
    | nil => exact (List.not_mem_nil h).elim
    | cons g gs ih =>
      rw [List.map_cons, pof_cons, pof_cons]
      by_cases e : g.1 = z
      · rw [if_pos e]
        by_cases f : y = z
        · rw [if_pos f, if_pos (e.trans f.symm)]
        · rw [if_neg f, if_neg (fun k => f (k.symm.trans e)), if_neg (fun k => f (k.symm.trans e))]
          by_cases m : z ∈ gs.map (·.1)
          · rw [ih m, if_neg f]
          · congr 1
            refine (List.map_congr_left fun x mx => ?_).trans (List.map_id' gs)
            exact if_neg (show ¬ x.1 = z from fun k => m (by rw [← k]; exact List.mem_map_of_mem mx))
      · rw [if_neg e]
        have m : z ∈ gs.map (·.1) := (List.mem_cons.mp h).resolve_left fun k => e k.symm
        rw [ih m]
        by_cases f : y = z
        · rw [if_pos f, if_neg (fun k => e (k.trans f)), if_pos f]
        · rw [if_neg f, if_neg f]
  · rw [if_neg h]
    by_cases f : y = z
    · rw [if_pos f, f, pof_append_out h, pof_cons, if_pos rfl]
    · rw [if_neg f]
      by_cases m : y ∈ gs.map (·.1)
      · rw [pof_append_in m]
      · rw [pof_append_out m, pof_cons, if_neg fun k => f k.symm, pof_nil, pof_out m]
theorem val_pof {gs : List (Int × Int)} (nd : (gs.map (·.1)).Nodup) (z : Int) : (valV (pks gs) (Sum.inl z)).getD (.int 0) = .int (pof gs z) := by
  by_cases h : z ∈ gs.map (·.1)
  · rw [pks_get nd h]
    rfl
  · rw [pks_none h, pof_out h]
    rfl
/-- the dict has counted these -/
structure Hist (gs E : List (Int × Int)) : Prop where
  nd : (gs.map (·.1)).Nodup
  c : ∀ z, pof gs z = cnt E z
theorem Hist.nil : Hist [] [] := ⟨List.nodup_nil, fun _ => rfl⟩
theorem Hist.put {gs E : List (Int × Int)} (h : Hist gs E) {y c : Int} (hc : 0 ≤ c) : Hist (putG gs y (pof gs y + c)) (E ++ [(y, c)]) :=
  ⟨putG_nd h.nd, fun z => by
    rw [putG_pof, cnt_append, cnt_one y c z hc]
    by_cases e : z = y
    · rw [if_pos e, if_pos e.symm, h.c, e]
    · rw [if_neg e, if_neg fun k => e k.symm, h.c, Int.add_zero]⟩
theorem cnt_nn (E : List (Int × Int)) (z : Int) : 0 ≤ cnt E z := Int.natCast_nonneg _
theorem cnt_pof : ∀ {gs : List (Int × Int)}, (gs.map (·.1)).Nodup → (∀ g ∈ gs, 0 ≤ g.2) → ∀ z, cnt gs z = pof gs z
  | [], _, _, _ => rfl
  | g :: gs, nd, hp, z => by
    have ⟨n1, n2⟩ := List.nodup_cons.mp nd
    rw [show g :: gs = [g] ++ gs from rfl, cnt_append, show [g] = [(g.1, g.2)] from rfl, cnt_one g.1 g.2 z (hp g List.mem_cons_self), cnt_pof n2 (fun x m => hp x (List.mem_cons_of_mem _ m)), show [(g.1, g.2)] ++ gs = g :: gs from rfl, pof_cons]
    by_cases e : g.1 = z
    · rw [if_pos e, if_pos e, pof_out (e ▸ n1), Int.add_zero]
    · rw [if_neg e, if_neg e, Int.zero_add]
theorem Hist.vals {gs E : List (Int × Int)} (h : Hist gs E) : ∀ g ∈ gs, g.2 = cnt E g.1 := fun g m => by rw [← h.c, pof_is h.nd m]
def live (g : Int × Int) : Bool := decide (0 < g.1) && decide (0 < g.2)
theorem ex_perm {R S : List (Int × Int)} (h : R.Perm S) : (ex R).Perm (ex S) := h.flatMap_right _
/-- what the dict tells, sorted -/
theorem Hist.rle {gs E : List (Int × Int)} (h : Hist gs E) {M : List Int} (e : M = pos (ex E)) (dn : Dn M) : Fit (gs.filter live) ∧ Rle (byAge (gs.filter live)) M := by
  have lv : ∀ g ∈ gs.filter live, g ∈ gs ∧ 0 < g.1 ∧ 0 < g.2 := fun g m => by
    have ⟨a, b⟩ := List.mem_filter.mp m
    unfold live at b
    rw [Bool.and_eq_true, decide_eq_true_iff, decide_eq_true_iff] at b
    exact ⟨a, b⟩
  have F : Fit (gs.filter live) := ⟨(List.filter_sublist.map _).nodup h.nd, fun g m => Int.le_of_lt (lv g m).2.2⟩
  have d : (byAge (gs.filter live)).Pairwise fun a b => b.1 < a.1 :=
    (List.pairwise_and_iff.mpr ⟨byAge_sorted _, List.pairwise_map.mp F.byAge.nd⟩).imp fun {a b} h => by
      have h1 := h.1
      have h2 := h.2
      omega
  refine ⟨F, ?_, d, fun r m => (lv r ((byAge_perm _).mem_iff.mp m)).2⟩
  refine dn_eq dn (ex_dn d) ?_
  refine List.Perm.trans ?_ (ex_perm (byAge_perm _)).symm
  refine List.perm_iff_count.mpr fun z => ?_
  have k1 : ((ex (gs.filter live)).count z : Int) = pof (gs.filter live) z := cnt_pof F.nd (fun g m => F.pos g m) z
  have k2 : ((ex E).count z : Int) = pof gs z := (h.c z).symm
  have k3 : (M.count z : Int) = if 0 < z then pof gs z else 0 := by
    rw [e]
    unfold pos
    by_cases hz : 0 < z
    · rw [if_pos hz, List.count_filter (p := fun s => decide (0 < s)) (a := z) (l := ex E) (decide_eq_true hz), k2]
    · rw [if_neg hz, List.count_eq_zero_of_not_mem (a := z) (fun m => hz (of_decide_eq_true (show decide (0 < z) = true from (List.mem_filter.mp m).2)))]
      rfl
  have k4 : pof (gs.filter live) z = if 0 < z then pof gs z else 0 := by
    by_cases m : z ∈ (gs.filter live).map (·.1)
    · obtain ⟨g, mg, eg⟩ := List.mem_map.mp m
      have ⟨a, b, c⟩ := lv g mg
      rw [← eg, pof_is F.nd mg, if_pos b, pof_is h.nd a]
    · rw [pof_out m]
      by_cases hz : 0 < z
      · rw [if_pos hz]
        by_cases k : z ∈ gs.map (·.1)
        · obtain ⟨g, mg, eg⟩ := List.mem_map.mp k
          rw [← eg, pof_is h.nd mg]
          have v := h.vals g mg
          have nn := cnt_nn E g.1
          have : ¬ 0 < g.2 := fun b => m (List.mem_map.mpr ⟨g, List.mem_filter.mpr ⟨mg, by
            unfold live
            rw [decide_eq_true (eg ▸ hz), decide_eq_true b]
            rfl⟩, eg⟩)
          omega
        · rw [pof_out k]
      · rw [if_neg hz]
  have : ((M.count z : Nat) : Int) = ((ex (gs.filter live)).count z : Nat) := by rw [k3, k1, k4]
  omega
end El
namespace El
open PySem PySem.Spec PyProof.Rows L2
/-- a method as the top has written it -/
structure Ma (K : PySem.W.Frag) (C : Addr) (m q : Str) (ps : List Str) (st : Stmt) : Prop where
  ex : ∃ (f : Addr) (fd : FuncData), Fun K m q st f fd ∧ Meth K C m f ∧ Binds K fd ps []
/-- a method and what it promises -/
structure Mf (P : Program) (w : World) (K : PySem.W.Frag) (mg : Str → Option Value) (base : Heap) (k : Nat) (C : Addr) (m q : Str) (ps : List Str) (st : Stmt) (sp : Sp) : Prop where
  ex : ∃ (f : Addr) (fd : FuncData), Fun K m q st f fd ∧ Meth K C m f ∧ Binds K fd ps [] ∧ FnOk P w K mg base CX0 k f fd ps sp
theorem Ma.mf {P : Program} {w : World} {K : PySem.W.Frag} {mg : Str → Option Value} {base : Heap} {k : Nat} {C : Addr} {m q : Str} {ps : List Str} {st : Stmt} {sp : Sp} (A : Ma K C m q ps st)
    (h : ∀ f fd, Fun K m q st f fd → FnOk P w K mg base CX0 k f fd ps sp) : Mf P w K mg base k C m q ps st sp := by
  obtain ⟨f, fd, F, M, b⟩ := A.ex
  exact ⟨f, fd, F, M, b, h f fd F⟩
section
variable {X : Cx} {k : Nat} {C : Addr} {m q : Str} {st : Stmt} {ps : List Str} {sp : Sp} {pos apos : Pos} {o e : Expr} {es : List Expr} {ta : TE} {t : TA}
/-- o.m(e, ..) -/
theorem pe_mf {pl : Sem Bool} (D : Mf X.prog X.w X.K X.mg X.base k C m q ps st sp) (c : Cls X.K C) (hr : Room k X.A) (he : PE X o ta) (ha : PA X (e :: es) t)
    (hst : starEach (e :: es) X.env = (false, eval e X.env) :: starEach es X.env := by rfl) (hpl : (backTo pos (starEach es X.env)).any (·.1) = false := by rfl)
    (ht : eval (.Call (.Attribute o m apos) (e :: es) [] pos) X.env = (do
      let ov ← eval o X.env
      standAt apos.atName
      let (f, first) ← holding [ov] (getMethod ov m pl)
      callWith pos f first (backTo pos (starEach (e :: es) X.env)) (backToKw pos (keywordEach [] X.env))) := by rfl) :
    PE X (.Call (.Attribute o m apos) (e :: es) [] pos) (tMeth C m sp [] E0 ta t) := by
  obtain ⟨f, fd, _, M, b, F⟩ := D.ex
  exact pe_meth (pl := pl) he c M F hr b .nil pass0 ha hst hpl ht
/-- o.m() -/
theorem pe_mf0 {pl : Sem Bool} (D : Mf X.prog X.w X.K X.mg X.base k C m q ps st sp) (c : Cls X.K C) (hr : Room k X.A) (he : PE X o ta)
    (ht : eval (.Call (.Attribute o m apos) [] [] pos) X.env = (do
      let ov ← eval o X.env
      standAt apos.atName
      let (f, first) ← holding [ov] (getMethod ov m pl)
      callWith pos f first (backTo pos (starEach [] X.env)) (backToKw pos (keywordEach [] X.env))) := by rfl) :
    PE X (.Call (.Attribute o m apos) [] [] pos) (tMeth C m sp [] E0 ta tNil) := by
  obtain ⟨f, fd, _, M, b, F⟩ := D.ex
  exact pe_meth0 (pl := pl) he c M F hr b .nil pass0 ht
/-- the reading of o.m(k = v, ..): the values in the order of g, behind the object -/
def tMethW (C : Addr) (m : Str) (n : Nat) (sp : Sp) (g : List V → List V) (ta : TE) (tk : TA) : TE := fun σ H Q => ta σ H fun x H1 => ∃ a dx fs, x = .ref a ∧ H1 a = some (.ins C dx fs) ∧ fs.lookup m = none ∧
  tk σ H1 fun zs H2 => zs.length = n ∧ sp (x :: g zs) H2 Q E0
theorem pe_mfK {kws : List Keyword} {tk : TA} {pl : Sem Bool} (D : Mf X.prog X.w X.K X.mg X.base k C m q ps st sp) (c : Cls X.K C) (ks : List Str) (g : {α : Type} → List α → List α) (hr : Room k X.A) (he : PE X o ta) (hkw : PK X kws tk)
    (hb : ∀ (kV doc pm : Value) (an : Option Addr) (cdv ct : Value) (u : Value) (ws : List Value), ws.length = ks.length → bindArgs (PySem.W.fnOf m q (defArgs st) (defBody st) (defScope st) .none kV doc pm an cdv ct) ⟨[u], ks.zip ws⟩ = pure (ps.zip (u :: g ws)))
    (hrel : ∀ {zs : List V} {ws : List Value}, Vals zs ws → Vals (g zs) (g ws))
    (hall : (backToKw pos (keywordEach kws X.env)).all (·.1.isSome) = true := by rfl) (hks : (backToKw pos (keywordEach kws X.env)).filterMap (·.1) = ks := by rfl)
    (hpl : ((backTo pos (starEach [] X.env)).any (·.1) || (backToKw pos (keywordEach kws X.env)).any (·.1.isNone)) = false := by rfl)
    (ht : eval (.Call (.Attribute o m apos) [] kws pos) X.env = (do
      let ov ← eval o X.env
      standAt apos.atName
      let (f, first) ← holding [ov] (getMethod ov m pl)
      callWith pos f first (backTo pos (starEach [] X.env)) (backToKw pos (keywordEach kws X.env))) := by rfl) :
    PE X (.Call (.Attribute o m apos) [] kws pos) (tMethW C m ks.length sp (fun zs => g zs) ta tk) := by
  obtain ⟨f, fd, F, M, b, G⟩ := D.ex
  have KB : KBn X.K fd ps 1 ks (fun us ws => us ++ g ws) (fun vs zs => vs ++ g zs) := by
    obtain ⟨oc, od, kV, doc, pm, an, cdv, ct, osl, rfl, lk, hcd⟩ := F.ex
    refine ⟨fun s us ws hK l1 l2 => ?_, fun {vs us zs ws} r rz => Vals.append r (hrel rz)⟩
    match us, l1 with
    | [u], _ => exact .of_eq (hb kV doc pm an cdv ct u ws l2)
  refine ⟨fun pins s σ H Q I h => ?_⟩
  refine PySem.W.methodCall_KW (pl := pl) (thn (he.run pins s σ H _ I h) fun u s1 ⟨x, H1, I1, rx, a, dx, fs, ex, ea, l, q⟩ => ?_) ht
  subst ex
  obtain rfl : u = Value.ref a := rx
  refine getmeth_ok I1 ea c M l ?_
  refine PySem.W.callWith_KW0 (first := [.ref a]) (h₀ := X.base) I.ok.mod.kin M.kp hall ?_ hpl
  refine thn (hkw.run pos pins s1 σ H1 _ I1 q) fun ws s2 ⟨zs, H2, I2, rz, l2, q2⟩ => ⟨I2.kIn, ?_⟩
  rw [hks]
  exact run_fnN (us := [.ref a]) (vs := [.ref a]) G hr KB pass0 I2 (.cons rfl .nil) rz rfl l2 q2
end
/-! ### what an Inn looks like between two calls -/
theorem npr : ¬ (("_patience_of" : Str) = "_rooms") := by decide +kernel
/-- its fields in the order in which they are set -/
def iflds (d o : Addr) : List (Str × V) := putF "_rooms" (.ref o) (putF "_patience_of" (.ref d) [])
theorem iflds_p (d o : Addr) : (iflds d o).lookup ("_patience_of" : Str) = some (.ref d) := by
  unfold iflds
  rw [lookup_putF, if_neg npr, lookup_putF, if_pos rfl]
theorem iflds_r (d o : Addr) : (iflds d o).lookup ("_rooms" : Str) = some (.ref o) := by
  unfold iflds
  rw [lookup_putF, if_pos rfl]
theorem iflds_no (d o : Addr) {m : Str} (h1 : ¬ m = "_rooms") (h2 : ¬ m = "_patience_of") : (iflds d o).lookup m = none := by
  unfold iflds
  rw [lookup_putF, if_neg h1, lookup_putF, if_neg h2]
  rfl
/-- what of the text the class has -/
structure InnT (K : PySem.W.Frag) (mg : Str → Option Value) (C : Addr) : Prop where
  cl : Cls K C
  nP : NoAttr K C "_patience_of"
  nR : NoAttr K C "_rooms"
  mgC : mg "Inn" = some (.ref C)
/-- an Inn at p: the guests gs in the order in which they came, the rooms rs; all it owns lies in B -/
structure InnAt (C : Addr) (H : Hp) (B : Addr → Prop) (p d o : Addr) (ts : List Addr) (gs : List (Int × Int)) (rs : List (List Int)) : Prop where
  ob : ∃ dx, H p = some (.ins C dx (iflds d o))
  dc : H d = some (.dK (pks gs))
  rm : RmsAt H B o ts rs
  bp : B p
  bd : B d
theorem InnAt.keep {C : Addr} {H H' : Hp} {B : Addr → Prop} {p d o : Addr} {ts : List Addr} {gs : List (Int × Int)} {rs : List (List Int)} (h : InnAt C H B p d o ts gs rs) (k : Kp B H H') : InnAt C H' B p d o ts gs rs := by
  obtain ⟨⟨dx, e⟩, dc, rm, bp, bd⟩ := h
  exact ⟨⟨dx, k _ _ bp e⟩, k _ _ bd dc, rm.keep k, bp, bd⟩
theorem InnAt.same {C : Addr} {H H' : Hp} {B : Addr → Prop} {p d o : Addr} {ts : List Addr} {gs : List (Int × Int)} {rs : List (List Int)} (h : InnAt C H B p d o ts gs rs) (k : Same H H') : InnAt C H' B p d o ts gs rs := h.keep (.of k)
theorem InnAt.pd {C : Addr} {H : Hp} {B : Addr → Prop} {p d o : Addr} {ts : List Addr} {gs : List (Int × Int)} {rs : List (List Int)} (h : InnAt C H B p d o ts gs rs) : p ≠ d := fun z => by
  obtain ⟨dx, e⟩ := h.ob
  rw [z, h.dc] at e
  cases e
theorem InnAt.po {C : Addr} {H : Hp} {B : Addr → Prop} {p d o : Addr} {ts : List Addr} {gs : List (Int × Int)} {rs : List (List Int)} (h : InnAt C H B p d o ts gs rs) : p ≠ o := fun z => by
  obtain ⟨dx, e⟩ := h.ob
  rw [z, h.rm.top] at e
  cases e
theorem InnAt.od {C : Addr} {H : Hp} {B : Addr → Prop} {p d o : Addr} {ts : List Addr} {gs : List (Int × Int)} {rs : List (List Int)} (h : InnAt C H B p d o ts gs rs) : o ≠ d := fun z => by
  have e := h.dc
  rw [← z, h.rm.top] at e
  cases e
theorem InnAt.room {C : Addr} {H : Hp} {B : Addr → Prop} {p d o : Addr} {ts : List Addr} {gs : List (Int × Int)} {rs : List (List Int)} (h : InnAt C H B p d o ts gs rs) {t : Addr} (m : t ∈ ts) : t ≠ p ∧ t ≠ d := by
  obtain ⟨i, e⟩ := List.mem_iff_getElem?.mp m
  have hl := at_lt e
  rw [h.rm.len] at hl
  obtain ⟨r, er⟩ := at_some hl
  have e1 := h.rm.at' i t r e er
  refine ⟨fun z => ?_, fun z => ?_⟩
  · obtain ⟨dx, e2⟩ := h.ob
    rw [← z, e1] at e2
    cases e2
  · have e2 := h.dc
    rw [← z, e1] at e2
    cases e2
/-- its rooms alone have changed -/
theorem InnAt.rooms {C : Addr} {H H' : Hp} {B : Addr → Prop} {p d o : Addr} {ts ts' : List Addr} {gs : List (Int × Int)} {rs rs' : List (List Int)} (h : InnAt C H B p d o ts gs rs) (k : Kp (fun b => b ≠ o ∧ b ∉ ts) H H') (r : RmsAt H' B o ts' rs') : InnAt C H' B p d o ts' gs rs' := by
  obtain ⟨dx, e⟩ := h.ob
  exact ⟨⟨dx, k _ _ ⟨h.po, fun m => (h.room m).1 rfl⟩ e⟩, k _ _ ⟨h.od.symm, fun m => (h.room m).2 rfl⟩ h.dc, r, h.bp, h.bd⟩
/-- guest a has entered room i -/
def enterR (rs : List (List Int)) (i : Nat) (a : Int) : List (List Int) := if i < rs.length then rs.set i (down (rs.getD i [] ++ [a])) else rs ++ [[a]]
theorem enterR_old {rs : List (List Int)} {i : Nat} {r : List Int} (a : Int) (h : rs[i]? = some r) : enterR rs i a = rs.set i (down (r ++ [a])) := by
  unfold enterR
  rw [if_pos (at_lt h), List.getD_eq_getElem?_getD, h]
  rfl
theorem enterR_new (rs : List (List Int)) (a : Int) : enterR rs rs.length a = rs ++ [[a]] := if_neg (Nat.lt_irrefl _)
/-- another list in the place of one -/
theorem RmsAt.put {H : Hp} {B : Addr → Prop} {o q : Addr} {ts : List Addr} {rs : List (List Int)} {i : Nat} {r : List Int} (h : RmsAt H B o ts rs) (hi : i < rs.length) (e : H q = some (.lst (r.map V.int))) (bq : B q) (nq : q ∉ ts) (qo : q ≠ o) :
    RmsAt (upd H o (.lst ((ts.set i q).map V.ref))) B o (ts.set i q) (rs.set i r) := by
  have inn : ∀ t ∈ ts.set i q, t = q ∨ t ∈ ts := fun t m => (List.mem_or_eq_of_mem_set m).symm
  have hn : ∀ t ∈ ts.set i q, t ≠ o := fun t m z => by
    rcases inn t m with y | y
    · exact qo (y ▸ z)
    · exact h.no (z ▸ y)
  refine ⟨upd_same, h.bo, ?_, fun m => hn o m rfl, ?_, fun j t x e1 e2 => ?_, fun t m => ?_⟩
  · rw [List.nodup_iff_pairwise_ne, List.pairwise_iff_getElem]
    intro a b ha hb hab
    rw [List.length_set] at ha hb
    rw [List.getElem_set, List.getElem_set]
    by_cases h1 : i = a
    · by_cases h2 : i = b
      · omega
      · rw [if_pos h1, if_neg h2]
        exact fun z => nq (z ▸ List.getElem_mem hb)
    · by_cases h2 : i = b
      · rw [if_neg h1, if_pos h2]
        exact fun z => nq (z ▸ List.getElem_mem ha)
      · rw [if_neg h1, if_neg h2]
        exact List.pairwise_iff_getElem.mp (List.nodup_iff_pairwise_ne.mp h.nd) a b ha hb hab
  · rw [List.length_set, List.length_set]
    exact h.len
  · rw [upd_ne (hn t (List.mem_of_getElem? e1))]
    by_cases hj : i = j
    · subst hj
      rw [List.getElem?_set_self (by rw [h.len]; exact hi)] at e1
      rw [List.getElem?_set_self hi] at e2
      obtain rfl : q = t := Option.some.inj e1
      obtain rfl : r = x := Option.some.inj e2
      exact e
    · rw [List.getElem?_set_ne hj] at e1 e2
      exact h.at' j t x e1 e2
  · rcases inn t m with rfl | m
    · exact bq
    · exact h.b t m
theorem RmsAt.lives {H : Hp} {B : Addr → Prop} {o : Addr} {ts : List Addr} {rs : List (List Int)} (h : RmsAt H B o ts rs) {t : Addr} (m : t ∈ ts) : ∃ r : List Int, H t = some (.lst (r.map V.int)) := by
  obtain ⟨i, e⟩ := List.mem_iff_getElem?.mp m
  have hl := at_lt e
  rw [h.len] at hl
  obtain ⟨r, er⟩ := at_some hl
  exact ⟨r, h.at' i t r e er⟩
theorem RmsAt.reL {H : Hp} {B B' : Addr → Prop} {o : Addr} {ts : List Addr} {rs : List (List Int)} (h : RmsAt H B o ts rs) (k : ∀ b, (∃ v, H b = some v) → B b → B' b) : RmsAt H B' o ts rs :=
  ⟨h.top, k _ ⟨_, h.top⟩ h.bo, h.nd, h.no, h.len, h.at', fun t m => k _ (let ⟨r, e⟩ := h.lives m; ⟨_, e⟩) (h.b t m)⟩
theorem InnAt.reB {C : Addr} {H : Hp} {B B' : Addr → Prop} {p d o : Addr} {ts : List Addr} {gs : List (Int × Int)} {rs : List (List Int)} (h : InnAt C H B p d o ts gs rs) (k : ∀ b, (∃ v, H b = some v) → B b → B' b) : InnAt C H B' p d o ts gs rs :=
  ⟨h.ob, h.dc, h.rm.reL k, k _ (let ⟨dx, e⟩ := h.ob; ⟨_, e⟩) h.bp, k _ ⟨_, h.dc⟩ h.bd⟩
theorem ifYes {c : Bool} {A B : Prop} (hc : c = true) (h : A) : if c = true then A else B := by
  subst hc
  exact iteT h
theorem ifNo {c : Bool} {A B : Prop} (hc : c = false) (h : B) : if c = true then A else B := by
  subst hc
  exact iteF h
end El
namespace El
open PySem PySem.Spec PyProof.Rows L2
/-! ### repr of nested things: that nothing is being shown is handed down from call to call -/
section
variable {P : Program} {w : World} {K : PySem.W.Frag} {mg : Str → Option Value} {base : Heap}
/-- the call keeps its promise under this one surrounding -/
def Goes (P : Program) (w : World) (K : PySem.W.Frag) (mg : Str → Option Value) (base : Heap) (f : Addr) (fd : FuncData) (ps : List Str) (sp : Sp) (A : Around) : Prop :=
  ∀ (outer : List Env) (s : Shared) (H : Hp) (args : Args) (us : List Value) (vs : List V) (Q : VK) (E : XK), Env0 P w K mg base A outer s H → BindsTo s fd args (ps.zip us) → Vals vs us → sp vs H Q E →
    codeAny (model P w) A (.call (.ref f) args) (CR CX0 outer P w H s Q E) s
theorem goes_body {x qual : Str} {st : Stmt} {f : Addr} {fd : FuncData} {N ps : List Str} {k : Nat} {sp : Sp} {A : Around} (F : Fun K x qual st f fd) (S : FnScope N ps (defScope st)) (room : Room (k + 1) A) (len : ∀ vs H Q E, sp vs H Q E → vs.length = ps.length)
    (body : ∀ (cdv : Value) (outer : List Env) (s : Shared) (H : Hp) (vs : List V) (Q : VK) (E : XK), Room k (A.deeper (envOfC qual (defScope st) s.heap.objs.size f cdv)) → sp vs H Q E →
      ∃ t, PSs (cxOf CX0 P w K mg base N qual (defScope st) f cdv A outer s H E).nox (defBody st) t ∧ t { nx := fun _ H' => Q .non H', rt := Q } (start N vs) H) : Goes P w K mg base f fd ps sp A := by
  intro outer s H args us vs Q E ent bound vals want
  obtain ⟨oc, od, kV, doc, pm, an, cdv, ct, osl, rfl, look, code⟩ := F.ex
  have lives : ∀ b o, base.get? b = some o → s.heap.get? b = some o := fun b o e => (ent.bs b o e).1
  have kin : K.In s.heap := ent.mod.kin.keeps lives
  obtain ⟨t, runs, asks⟩ := body cdv outer s H vs Q E (room.deeper _) want
  apply codeAny_call_function room.depth (kin _ _ look) rfl S.co S.gen rfl (PySem.W.codeRec_of kin code)
  apply bound
  apply wpAny_newFunctionEnv_cells S.kind
  · intro y my
    rcases S.par y.1 (List.of_mem_zip my).1 with here | cell
    · exact .inl here
    · exact .inr ⟨cell, PySem.W.cellsFrom_some _ _ _ (.inl cell)⟩
  · rintro _ rfl s1 made
    refine ⟨(ent.mod.nolimit.keeps lives).keeps made.toInCall.keep, codeAny_func ?_⟩
    have at0 := inv_start (CX := CX0) (E := E) (cd := cdv) S room.hd ent (len _ _ _ _ want) vals made
    refine wpAny_mono (runs.nox.run [] s1 _ H _ at0 asks) (fun flow s2 told => ?_) fun _ _ err => err
    match flow, told with
    | .ret _, ⟨v, _, H', J, rel, q⟩ => exact ⟨v, H', J.os, J.bare, J.base, J.hok, rel, q⟩
    | .next, ⟨_, H', J, q⟩ => exact ⟨.non, H', J.os, J.bare, J.base, J.hok, rfl, q⟩
    | .brk, ⟨_, _, _, q⟩ => exact q.elim
    | .cont, ⟨_, _, _, q⟩ => exact q.elim
/-- a def and what it promises where nothing is being shown -/
structure DfG (P : Program) (w : World) (K : PySem.W.Frag) (mg : Str → Option Value) (base : Heap) (k : Nat) (x : Str) (ps : List Str) (st : Stmt) (sp : Sp) : Prop where
  ex : ∃ (f : Addr) (fd : FuncData), Fun K x x st f fd ∧ mg x = some (.ref f) ∧ Binds K fd ps [] ∧ (∀ vs H Q E, sp vs H Q E → vs.length = ps.length) ∧ ∀ A : Around, A.guards = some [] → Room k A → Goes P w K mg base f fd ps sp A
theorem At.dfG {k : Nat} {x : Str} {N ps : List Str} {st : Stmt} {sp : Sp} (A : At K mg x ps st) (S : FnScope N ps (defScope st)) (len : ∀ vs H Q E, sp vs H Q E → vs.length = ps.length)
    (body : ∀ (f : Addr) (fd : FuncData), Fun K x x st f fd → ∀ (cdv : Value) (AA : Around) (outer : List Env) (s : Shared) (H : Hp) (vs : List V) (Q : VK) (E : XK), (AA.deeper (envOfC x (defScope st) s.heap.objs.size f cdv)).guards = some [] → Room k (AA.deeper (envOfC x (defScope st) s.heap.objs.size f cdv)) → sp vs H Q E →
      ∃ t, PSs (cxOf CX0 P w K mg base N x (defScope st) f cdv AA outer s H E).nox (defBody st) t ∧ t { nx := fun _ H' => Q .non H', rt := Q } (start N vs) H) : DfG P w K mg base (k + 1) x ps st sp := by
  obtain ⟨f, fd, F, m, b⟩ := A.ex
  exact ⟨f, fd, F, m, b, len, fun AA calm room => goes_body F S room len fun cdv outer s H vs Q E r q => body f fd F cdv AA outer s H vs Q E calm r q⟩
section
variable {X : Cx} {k : Nat} {x : Str} {ps : List Str} {st : Stmt} {sp : Sp} {p pos : Pos} {e : Expr} {es : List Expr} {t : TA}
theorem pe_dfG (D : DfG X.prog X.w X.K X.mg X.base k x ps st sp) (calm : X.A.guards = some []) (room : Room k X.A) (hg : Gl X x) (ha : PA X (e :: es) t) (hdb : (x == ("__debug__" : Str)) = false := by decide)
    (he : starEach (e :: es) X.env = (false, eval e X.env) :: starEach es X.env := by rfl) (hpl : (backTo pos (starEach es X.env)).any (·.1) = false := by rfl) : PE X (.Call (.Name x p) (e :: es) [] pos) (tCall sp [] E0 t) := by
  obtain ⟨f, fd, F, m, b, len, goes⟩ := D.ex
  constructor
  intro pins s σ H Q I asks
  apply wpAny_Call_Name_kw
  apply ld_glob I hg m _ hdb
  refine PySem.W.callWith_K I.ok.mod.kin F.kp (wpAny_mono (ha.run pos pins s σ H _ I asks) (fun us s1 ready => ?_) fun _ _ err => err) he hpl
  obtain ⟨vs, H1, I1, rel, want⟩ := ready
  refine ⟨I1.kIn, wpAny_call (codeAny_mono (goes X.A calm room X.stack s1 H1 ⟨us, []⟩ us (vs ++ []) Q E0 I1.env0 ?_ ?_ want) fun r s2 told => ?_)⟩
  · have := b s1 us I1.kIn (by rw [List.append_nil, ← rel.length]; have := len _ _ _ _ want; rwa [List.append_nil] at this)
    rwa [List.append_nil] at this
  · rwa [List.append_nil]
  · match r, told with
    | .ok (.ret _), told => exact I1.after told
    | .error _, told => exact told.elim
end
theorem DfG.goes {k : Nat} {x : Str} {ps : List Str} {st : Stmt} {sp : Sp} {fa : Addr} {fd : FuncData} {oc : Value} {od : Option Addr} {sl : Array (Option Value)}
    (D : DfG P w K mg base k x ps st sp) (hf : mg x = some (.ref fa)) (l : K.lookup fa = some ⟨oc, od, .func fd, sl⟩) : ∀ A : Around, A.guards = some [] → Room k A → Goes P w K mg base fa fd ps sp A := by
  obtain ⟨f, fd', F, m, _, _, goes⟩ := D.ex
  obtain rfl : f = fa := Value.ref.inj (Option.some.inj (m.symm.trans hf))
  obtain ⟨_, _, _, _, _, _, _, _, _, rfl, look, _⟩ := F.ex
  obtain rfl := Data.func.inj (Obj.mk.inj (Option.some.inj (look.symm.trans l))).2.2.1
  exact goes
/-- what is tracked when the law is called -/
structure Entry (P : Program) (w : World) (K : PySem.W.Frag) (a : Addr) (ns : List Int) (h : Heap) (H : Hp) : Prop where
  only : Only H
  sq : SqL K H a (ns.map V.int)
  ok : HOk P w H h
  out : ∀ b, H b ≠ none → K.lookup b = none ∧ ∀ o es ep, h.get? b = some o → o.data ≠ .dict es ep
theorem entry_of {a : Addr} {vs : List Value} {ns : List Int} {h : Heap} (kin : K.In h) (ha : h.get? a = some { cls := .type "list", data := .seq vs.toArray }) (hi : IntsAre vs ns) (hl : ns.length ≤ sizeLine) : ∃ H, Entry P w K a ns h H := by
  have rel := vals_ints hi
  cases hk : K.lookup a with
  | some o =>
    obtain rfl := Option.some.inj (ha.symm.trans (kin a o hk))
    exact ⟨fun _ => none, fun _ => .inl rfl, .inr ⟨_, vs.toArray, _, hk, rfl, rfl, rfl, by rw [List.size_toArray, hi.length]; exact hl, by simpa using rel⟩, (fun b u z => by cases z), fun b z => (z rfl).elim⟩
  | none =>
    have at_a : ∀ {b u}, (if b = a then some (HO.frz { cls := .type "list", data := .seq vs.toArray } (.lst (ns.map V.int))) else none) = some u → b = a ∧ u = .frz { cls := .type "list", data := .seq vs.toArray } (.lst (ns.map V.int)) := fun {b u} z => by
      by_cases hb : b = a
      · rw [if_pos hb] at z
        exact ⟨hb, (Option.some.inj z).symm⟩
      · rw [if_neg hb] at z
        cases z
    refine ⟨fun b => if b = a then some (.frz { cls := .type "list", data := .seq vs.toArray } (.lst (ns.map V.int))) else none, fun b => ?_, .inl (.inr ⟨_, if_pos rfl⟩), fun b u z => ?_, fun b z => ?_⟩
    · by_cases hb : b = a
      · exact .inr ⟨_, _, if_pos hb⟩
      · exact .inl (if_neg hb)
    · obtain ⟨rfl, rfl⟩ := at_a z
      exact ⟨ha, by rw [List.length_map]; exact hl, vs, _, rel, ha⟩
    · cases e : (if b = a then some (HO.frz { cls := .type "list", data := .seq vs.toArray } (.lst (ns.map V.int))) else none) with
      | none => exact (z e).elim
      | some u =>
        obtain ⟨rfl, _⟩ := at_a e
        refine ⟨hk, fun o es ep eo ed => ?_⟩
        obtain rfl := Option.some.inj (ha.symm.trans eo)
        cases ed
theorem law_goes {mb : Str → Option Value} {fa a : Addr} {fd : FuncData} {x : Str} {sp : Sp} {s₁ : Shared} {vs : List Value} {ns : List Int}
    (kin : K.In s₁.heap) (glob : s₁.heap.Ns mainGlobals mg) (blt : s₁.heap.Ns builtinsNs mb) (boot : ∀ x : Str, x ≠ "__name__" → mb x = bootBuiltins x) (lim : s₁.heap.NoLimit) (gens : s₁.gens = #[])
    (ha : s₁.heap.get? a = some { cls := .type "list", data := .seq vs.toArray }) (hi : IntsAre vs ns) (hl : ns.length ≤ sizeLine)
    (goes : ∀ base : Heap, K.In base → base.Ns mainGlobals mg → Goes P w K mg base fa fd [x] sp callerA) (bound : ∀ (s : Shared) (u : Value), BindsTo s fd ⟨[u], []⟩ [(x, u)])
    (keeps : ∀ H : Hp, SqL K H a (ns.map V.int) → sp [.ref a] H (fun v _ => v = .bl true) fun _ _ _ => False) :
    codeAny (model P w) callerA (.call (.ref fa) ⟨[.ref a], []⟩) (fun r s' => r = .ok (.ret (.bool true)) ∧ OldK s₁.heap s'.heap ∧ s'.os = s₁.os ∧ AllBare s'.gens) s₁ := by
  obtain ⟨H, N⟩ := entry_of (P := P) (w := w) kin ha hi hl
  have dictOut : ∀ {b o es ep}, s₁.heap.get? b = some o → o.data = .dict es ep → H b = none := fun {b o es ep} e d => Classical.byContradiction fun z => (N.out b z).2 o es ep e d
  have kinB : K.In (hidT s₁.heap H) := fun b o e => hidT_get (kin b o e) (Classical.byContradiction fun z => by
    rw [(N.out b z).1] at e
    cases e)
  have lay : ∀ {b : Addr} {m : Str → Option Value}, s₁.heap.Ns b m → (hidT s₁.heap H).Ns b m := fun ⟨o, es, ep, e, d, r⟩ => ⟨o, es, ep, hidT_get e (dictOut e d), d, r⟩
  have limB : (hidT s₁.heap H).NoLimit := by
    obtain ⟨mc, l1, l2⟩ := lim
    exact ⟨mc, lay l1, l2⟩
  have ent : Env0 P w K mg (hidT s₁.heap H) callerA [] s₁ H := ⟨rfl, ⟨kinB, lay glob, ⟨mb, lay blt, boot⟩, limB⟩, fun _ _ e => of_hidT e, by rw [hidT_size]; exact Nat.le_refl _, trivial, fun b mb => (List.not_mem_nil mb).elim, N.ok, .of_eq gens⟩
  refine codeAny_mono (goes _ kinB (lay glob) [] s₁ H ⟨[.ref a], []⟩ [.ref a] [.ref a] _ _ ent (bound s₁ (.ref a)) (.cons rfl .nil) (keeps H N.sq)) fun r s2 told => ?_
  match r, told with
  | .error _, told => exact told.elim
  | .ok (.ret u), ⟨v, H', os, bare, un, hok, rel, (q : v = .bl true)⟩ =>
    subst q
    obtain rfl : u = Value.bool true := rel
    refine ⟨rfl, OldK.of_keep fun b o e => ?_, os, bare⟩
    rcases N.only b with free | ⟨ob, xs, held⟩
    · exact un.keep b o e free (fun z => (List.not_mem_nil z).elim) (fun z => (List.not_mem_nil z).elim)
    · obtain ⟨e1, _⟩ := N.ok b _ held
      obtain ⟨e2, _⟩ := hok b _ (un.frzs b ob _ held)
      rw [← Option.some.inj (e1.symm.trans e)]
      exact e2
end
/-- the end of such a law -/
theorem walk_goes {l : PySem.W.OpenLaw} {n k : Nat} {q : Program} {loose : List Str} {XP : (Str → Option Value) → Heap → Prop} {YP : World → Heap → Prop} {d : DefRec} {K : Params → PySem.W.Frag} {sp : PySem.W.Frag → Sp} {x : Str}
    (hn : l.most = some n) (hn2 : n ≤ sizeLine) (hdf : d.params.defaults = []) (room : Room k callerA) (hY : ∀ (w : World) (h : Heap), YP w h → (K w.params).In h)
    (F : ∀ (w : World) (mg : Str → Option Value) (fa : Addr) (h : Heap), (K w.params).In h → h.Ns mainGlobals mg → mg d.name = some (.ref fa) →
      ∃ fd : FuncData, (∀ (s : Shared) (u : Value), BindsTo s fd ⟨[u], []⟩ [(x, u)]) ∧ ∀ base : Heap, (K w.params).In base → base.Ns mainGlobals mg → ∀ A : Around, A.guards = some [] → Room k A → Goes l.prog w (K w.params) mg base fa fd [x] (sp (K w.params)) A)
    (keeps : ∀ (w : World) (H : Hp) (a : Addr) (ns : List Int), ns.length ≤ n → SqL (K w.params) H a (ns.map V.int) → sp (K w.params) [.ref a] H (fun v _ => v = .bl true) fun _ _ _ => False) :
    PySem.W.WalkO q loose XP YP l.row.toRowW d [] (fun f vs => PySem.call f vs) := by
  refine Att.attach_call hn hdf fun w s₀ s₁ mg mb fa o pm cd doc a vs ns G Y _ _ _ hmg here its len gens => ?_
  obtain ⟨fd, bound, goes⟩ := F w mg fa _ (hY w _ Y) G.T.g hmg
  exact law_goes (hY w _ Y) G.T.g G.T.b G.T.builtins G.T.nolimit gens here its (Nat.le_trans len hn2) (fun base kb gb => goes base kb gb callerA rfl room) bound fun H sq => keeps w H a ns len sq
section
variable {X : Cx}
/-- repr(x) of lists and tuples of numbers, nested -/
theorem call_reprD (calm : X.A.guards = some []) {k : Nat} (room : Room k X.A) : CallR X (.builtin "repr") (fun xs H Q => ∃ (a : Addr) (d : PyData), xs = [.ref a] ∧ Dp X.K H (.ref a) d ∧ d.showable = true ∧ d.hasDict = false ∧ d.depth ≤ 60 ∧ d.shown.length ≤ sizeLine ∧ Q (.str d.shown) H) := by
  intro pins s σ H xs us Q I rel ⟨a, d, ex, dp, sh, nd, dep, len, q⟩
  subst ex
  obtain ⟨u, rfl, ru⟩ := vals1 rel
  obtain rfl : u = Value.ref a := ru
  obtain ⟨as, rd⟩ := dp.reads I d _ _ rfl
  refine repr_of_reads' rd sh (PyData.noDict_hsm nd) calm (by have := room.un; omega) (fun _ _ e => e) (fun h' u tk kp => ⟨.str d.shown, H, I.kept kp, ⟨_, rfl⟩, q⟩) len
end
end El
namespace El
/-- rooms in which somebody is on the way: x is to enter room i -/
def Mid (gs : List (Int × Int)) (rs : List (List Int)) (i : Nat) (x : Int × Int) : Prop :=
  ∃ (D : List (List Int)) (L L' : List (Int × Int)), rs = D ++ settleL L ∧ D.length = i ∧ Comes x L L' ∧ L'.Sublist (byAge gs) ∧ settle gs = D ++ settleL L'
theorem Comes.sub {x : Int × Int} {L L' : List (Int × Int)} (h : Comes x L L') : L.Sublist L' := by
  obtain ⟨pre, post, rfl, rfl⟩ := h
  exact (List.Sublist.refl pre).append (List.sublist_cons_self x post)
theorem Comes.mem {x : Int × Int} {L L' : List (Int × Int)} (h : Comes x L L') : x ∈ L' := by
  obtain ⟨pre, post, _, rfl⟩ := h
  simp
theorem Comes.has {x g : Int × Int} {L L' : List (Int × Int)} (h : Comes x L L') (m : g ∈ L) : g ∈ L' := h.sub.subset m
theorem Mid.start {gs : List (Int × Int)} {x : Int × Int} (F : Fit (gs ++ [x])) : Mid (gs ++ [x]) (settle gs) 0 x := by
  have p : (x :: gs).Perm (gs ++ [x]) := by
    have := List.perm_append_comm (l₁ := [x]) (l₂ := gs)
    exact this
  obtain ⟨pre, post, e1, e2⟩ := byAge_split (F.perm p)
  have e3 : byAge (gs ++ [x]) = pre ++ x :: post := by
    rw [← e1]
    exact (byAge_congr F p).symm
  refine ⟨[], byAge gs, byAge (gs ++ [x]), rfl, rfl, ⟨pre, post, e2, e3⟩, List.Sublist.refl _, rfl⟩
theorem Mid.first {gs : List (Int × Int)} {rs : List (List Int)} {i : Nat} {x : Int × Int} (F : Fit gs) (M : Mid gs rs i x) : i < (settle gs).length ∧ i ≤ rs.length ∧ rs.length ≤ 2 * gs.length ∧ (∀ r ∈ rs, r.length ≤ gs.length) ∧ x ∈ gs := by
  obtain ⟨D, L, L', e1, e2, c, s, e3⟩ := M
  have pos : ∀ g ∈ L', 0 ≤ g.2 := fun g m => F.pos g ((byAge_perm gs).mem_iff.mp (s.subset m))
  have ne : L' ≠ [] := fun z => by
    have := c.mem
    rw [z] at this
    cases this
  have l1 := s.length_le
  rw [byAge_length] at l1
  have l2 := c.sub.length_le
  have l3 := settleL_len (byAge gs)
  rw [byAge_length] at l3
  have l3' : (settle gs).length ≤ gs.length := l3
  have l4 := settleL_len L
  have l5 : (settle gs).length = D.length + (settleL L').length := by
    rw [e3, List.length_append]
  have l6 : 0 < (settleL L').length := by
    rw [settle_first ne pos, List.length_cons]
    omega
  refine ⟨by omega, by rw [e1, List.length_append]; omega, by rw [e1, List.length_append]; omega, fun r m => ?_, (byAge_perm gs).mem_iff.mp (s.subset c.mem)⟩
  rw [e1] at m
  rcases List.mem_append.mp m with m | m
  · have m' : r ∈ settleL (byAge gs) := by
      show r ∈ settle gs
      rw [e3]
      exact List.mem_append_left _ m
    have := settleL_room m'
    rw [byAge_length] at this
    exact this
  · have := settleL_room m
    omega
theorem Mid.step {gs : List (Int × Int)} {rs : List (List Int)} {i : Nat} {x : Int × Int} (F : Fit gs) (M : Mid gs rs i x) :
    ∃ E : List Int, (enterR rs i x.1)[i]? = some E ∧ E.length ≤ gs.length ∧ (∀ a ∈ E, a ∈ gs.map (·.1)) ∧ E.Nodup ∧
      ((eldUp gs E = none ∧ enterR rs i x.1 = settle gs) ∨ ∃ y : Int × Int, y.1 ∈ E ∧ eldUp gs E = some y.1 ∧ Mid gs ((enterR rs i x.1).set i (E.erase y.1)) (i + 1) y) := by
  obtain ⟨D, L, L', rfl, rfl, c, s, e3⟩ := M
  have mem : ∀ g ∈ L', g ∈ gs := fun g m => (byAge_perm gs).mem_iff.mp (s.subset m)
  obtain ⟨E, pE, dE, out⟩ := come_step F c s
  have e1 : enterR (D ++ settleL L) D.length x.1 = D ++ E :: settleL (r0 0 L) := by
    rw [settle_parts fun g m => F.pos g (mem g (c.has m))]
    by_cases h : L = []
    · rw [if_pos h]
      subst h
      have eE : E = [x.1] := List.perm_singleton.mp (pE.trans (.refl _))
      rw [List.append_nil, enterR_new, eE]
      rfl
    · rw [if_neg h]
      have er : (D ++ roomOf L :: settleL (r0 0 L))[D.length]? = some (roomOf L) := by
        rw [List.getElem?_append_right (Nat.le_refl _), Nat.sub_self]
        rfl
      have eE : E = down (roomOf L ++ [x.1]) := down_is (pE.trans (List.perm_append_comm (l₁ := [x.1]) (l₂ := roomOf L))) (dE.imp fun h => by omega)
      rw [enterR_old x.1 er, List.set_append_right _ _ (Nat.le_refl _), Nat.sub_self, ← eE]
      rfl
  have inE : ∀ a ∈ E, a ∈ gs.map (·.1) := fun a m => by
    rcases List.mem_cons.mp (pE.mem_iff.mp m) with rfl | m
    · exact List.mem_map_of_mem (mem x c.mem)
    · obtain ⟨g, hg, rfl⟩ := List.mem_map.mp m
      exact List.mem_map_of_mem (mem g (c.has ((g0_sub L 0).subset hg)))
  have ndE : E.Nodup := dE.imp fun h => by omega
  refine ⟨E, ?_, ?_, inE, ndE, ?_⟩
  · rw [e1, List.getElem?_append_right (Nat.le_refl _), Nat.sub_self]
    rfl
  · have := List.Nodup.length_le_of_subset ndE inE
    rw [List.length_map] at this
    exact this
  · rcases out with ⟨h1, h2⟩ | ⟨y, hy, m, h1, h2, h3⟩
    · exact .inl ⟨h1, by rw [e1, e3, h2]⟩
    · refine .inr ⟨y, m, h1, D ++ [E.erase y.1], r0 0 L, r0 0 L', ?_, by rw [List.length_append]; rfl, h3, (r0_sub L' 0).trans s, ?_⟩
      · rw [e1, List.set_append_right _ _ (Nat.le_refl _), Nat.sub_self, List.append_assoc]
        rfl
      · rw [e3, h2, List.append_assoc]
        rfl
/-- who came into which room, and the rooms then -/
def comeF : Nat → List (Int × Int) → List (List Int) → Nat → Int → List (Int × Int) × List (List Int)
  | 0, _, rs, _, _ => ([], rs)
  | n + 1, gs, rs, i, x =>
    match eldUp gs ((enterR rs i x).getD i []) with
    | none => ([(x, (i : Int))], enterR rs i x)
    | some y => ((x, (i : Int)) :: (comeF n gs ((enterR rs i x).set i (((enterR rs i x).getD i []).erase y)) (i + 1) y).1, (comeF n gs ((enterR rs i x).set i (((enterR rs i x).getD i []).erase y)) (i + 1) y).2)
theorem comeF_end {n : Nat} {gs : List (Int × Int)} {rs : List (List Int)} {i : Nat} {x : Int} {E : List Int} (e : (enterR rs i x)[i]? = some E) (h : eldUp gs E = none) : comeF (n + 1) gs rs i x = ([(x, (i : Int))], enterR rs i x) := by
  unfold comeF
  rw [List.getD_eq_getElem?_getD, e]
  show (match eldUp gs E with | none => _ | some y => _) = _
  rw [h]
theorem comeF_on {n : Nat} {gs : List (Int × Int)} {rs : List (List Int)} {i : Nat} {x y : Int} {E : List Int} (e : (enterR rs i x)[i]? = some E) (h : eldUp gs E = some y) :
    comeF (n + 1) gs rs i x = ((x, (i : Int)) :: (comeF n gs ((enterR rs i x).set i (E.erase y)) (i + 1) y).1, (comeF n gs ((enterR rs i x).set i (E.erase y)) (i + 1) y).2) := by
  rw [comeF]
  rw [List.getD_eq_getElem?_getD, e]
  show (match eldUp gs E with | none => _ | some y => _) = _
  rw [h]
  rfl
/-- the pairs told when x comes to gs -/
def comeT (gs : List (Int × Int)) (x : Int × Int) : List (Int × Int) := (comeF (settle (gs ++ [x])).length (gs ++ [x]) (settle gs) 0 x.1).1
end El
namespace El
open PySem PySem.Spec PyProof.Rows L2
/-! ### what a method with two lines around its name is asked by -/
section
variable {X : Cx} {k : Nat} {C : Addr} {m q : Str} {st : Stmt} {ps : List Str} {sp : Sp}
/-- a method of ours, run below a builtin -/
theorem run_in {pins : List (Addr × Obj)} {σ : L2.St} {H : Hp} {s : Shared} {A : Around} {Q : VK} {us : List Value} {vs : List V} {f : Addr} {fd : FuncData} (F : FnOk X.prog X.w X.K X.mg X.base CX0 k f fd ps sp) (hr : Room k A) (hfr : A.frames = X.A.frames) (hb : Binds X.K fd ps [])
    (I : Inv X pins σ H s) (r : Vals vs us) (h : sp vs H Q E0) : wpAny (model X.prog X.w) A (call (.ref f) us) (EP X pins σ Q) X.xe s := by
  have e0 : Env0 X.prog X.w X.K X.mg X.base A X.stack s H := by
    have e := I.env0
    exact ⟨by rw [hfr]; exact e.frames, e.mod, e.bs, e.bsz, e.funs, e.frf, e.hok, e.bare⟩
  have hl : us.length = ps.length := by
    rw [← r.length]
    exact F.len _ _ _ _ h
  refine wpAny_call (codeAny_mono (F.run A X.stack s H ⟨us, []⟩ us vs Q E0 hr e0 (by
    have := hb s us I.kIn (by simpa using hl)
    simpa using this) r h) fun r s' hq => ?_)
  cases r with
  | error e => exact pass0 pins σ H s e s' I hq
  | ok fl =>
    cases fl with
    | ret u => exact I.after hq
    | next => exact False.elim hq
    | brk => exact False.elim hq
    | cont => exact False.elim hq
/-- len(o), o with an own __len__ -/
def rLenO (C : Addr) (sp : Sp) : List V → Hp → VK → Prop := fun xs H Q => ∃ (p dx : Addr) (fs : List (Str × V)), xs = [.ref p] ∧ H p = some (.ins C dx fs) ∧ sp [.ref p] H (fun v H' => ∃ n : Int, v = .int n ∧ 0 ≤ n ∧ n < 2 ^ 63 ∧ Q (.int n) H') E0
theorem call_lenO (D : Mf X.prog X.w X.K X.mg X.base k C "__len__" q ps st sp) (hr : Room (k + 1) X.A) : CallR X (.builtin "len") (rLenO C sp) := by
  obtain ⟨f, fd, _, M, b, F⟩ := D.ex
  intro pins s σ H xs us Q I r h
  obtain ⟨p, dx, fs, rfl, ep, h⟩ := h
  obtain rfl := Vals.ref1 r
  obtain ⟨mA, J, _⟩ := ins_get I.hok ep
  obtain ⟨od, J, _⟩ := J.look
  obtain ⟨mm, hF⟩ := I.fr
  refine PySem.W.len_K hF I.ok.mod.kin J M.at_ M.fn ?_
  have r1 : Vals [V.ref p] [Value.ref p] := .cons rfl .nil
  refine wpAny_mono (run_in F hr.in1 rfl b I r1 h) (fun u s' hq => ?_) fun _ _ x => x
  obtain ⟨v, H', I', rv, n, rfl, n0, n1, q⟩ := hq
  obtain ⟨t, rfl⟩ := rv
  exact ⟨⟨n0, n1⟩, .int n, H', I'.tok _, ⟨_, rfl⟩, q⟩
/-- a op b, both of a class of the text's own that says itself how -/
def rCmpO (C : Addr) (sp : Sp) : R2 := fun x y H Q => ∃ (a b dx dy : Addr) (fs gs : List (Str × V)), x = .ref a ∧ y = .ref b ∧ H a = some (.ins C dx fs) ∧ H b = some (.ins C dy gs) ∧ sp [.ref a, .ref b] H (fun v H' => ∃ c : Bool, v = .bl c ∧ Q (.bl c) H') E0
theorem cmpO {op : CmpOp} {pins : List (Addr × Obj)} {σ : L2.St} {H : Hp} {s : Shared} {Q : VK} {a b dx dy : Addr} {fs gs : List (Str × V)} (D : Mf X.prog X.w X.K X.mg X.base k C (cmpInfo op).2.1 q ps st sp) (hr : Room k X.A) (I : Inv X pins σ H s) (ha : H a = some (.ins C dx fs)) (hb : H b = some (.ins C dy gs))
    (h : sp [.ref a, .ref b] H (fun v H' => ∃ c : Bool, v = .bl c ∧ Q (.bl c) H') E0) : wpAny (model X.prog X.w) X.A (richCompare op (.ref a) (.ref b)) (EP X pins σ Q) X.xe s := by
  obtain ⟨f, fd, _, M, bi, F⟩ := D.ex
  obtain ⟨mA, J, _⟩ := ins_get I.hok ha
  obtain ⟨mB, J', _⟩ := ins_get I.hok hb
  obtain ⟨od, J, _⟩ := J.look
  obtain ⟨od', J', _⟩ := J'.look
  obtain ⟨mm, hF⟩ := I.fr
  refine PySem.W.cmp_K (op := op) (tb := .ref C) hr.units0 hF I.ok.mod.kin J J'.type (by simp [PySem.W.notFirst]) M.at_ M.fn ?_
  have r2 : Vals [V.ref a, V.ref b] [Value.ref a, Value.ref b] := .cons rfl (.cons rfl .nil)
  refine wpAny_mono (run_in F hr rfl bi I r2 h) (fun u s' hq => ?_) fun _ _ x => x
  obtain ⟨v, H', I', rv, c, rfl, q⟩ := hq
  cases rv
  exact ⟨.bl c, H', I', rfl, q⟩
theorem op_eqO (D : Mf X.prog X.w X.K X.mg X.base k C "__eq__" q ps st sp) (hr : Room k X.A) : OpR X (compareOp .Eq) (rCmpO C sp) := by
  intro pins s σ H x y v u Q I rx ry h
  obtain ⟨a, b, dx, dy, fs, gs, rfl, rfl, ha, hb, h⟩ := h
  cases rx
  cases ry
  exact cmpO (op := .Eq) D hr I ha hb h
theorem op_neO (D : Mf X.prog X.w X.K X.mg X.base k C "__ne__" q ps st sp) (hr : Room k X.A) : OpR X (compareOp .NotEq) (rCmpO C sp) := by
  intro pins s σ H x y v u Q I rx ry h
  obtain ⟨a, b, dx, dy, fs, gs, rfl, rfl, ha, hb, h⟩ := h
  cases rx
  cases ry
  exact cmpO (op := .NotEq) D hr I ha hb h
/-- what isinstance asks of an instance of the class -/
structure InsT (K : PySem.W.Frag) (C : Addr) : Prop where
  ha : PySem.W.findIn K (.ref C) "__class__" = some (some (.builtin "object.__class__"))
  hn : PySem.W.specialIn K (.builtin "object.__class__") "__get__" = some (some (.builtin "getset_descriptor.__get__"))
  ht : PySem.W.takesIn K (.builtin "object.__class__") = some true
  hm : PySem.W.mroIn K C (.type "object") = some true
theorem relRefO (a : Addr) : RelV (.ref a) (.ref a) := rfl
theorem kit_same {K : PySem.W.Frag} (C : Addr) : PySem.W.kitOne K (.ref C) (.ref C) = some true := if_pos (beq_self_eq_true _)
theorem fldK {e : Expr} {f : Str} {pos : Pos} {ta : TE} (K : PySem.W.Frag) (he : PE X e ta) (hb : attributeBase e f X.env (eval e X.env) = eval e X.env := by rfl) (eK : X.K = K := by rfl) : PE X (.Attribute e f pos) (tFld K ta f) := by
  subst eK
  exact pe_fld he hb
end
end El
namespace El
open PySem PySem.Spec PyProof.Rows L2
section
variable {P : Program} {w : World} {K : PySem.W.Frag} {mg : Str → Option Value} {base : Heap}
abbrev s_check_first : Stmt := topS 8
abbrev N_check_first : List Str := ["j"]
abbrev P_check_first : List Str := ["j"]
theorem sc_check_first : FnScope N_check_first P_check_first (defScope s_check_first) := ⟨rfl, rfl, rfl, by decide +kernel, rfl, by decide +kernel, by decide +kernel⟩
def sp_check_first : Sp := fun vs H Q _ => ∃ j : Nat, vs = [.int (j : Int)] ∧ Q .non H
theorem ok_check_first (A : At K mg "check_first" P_check_first s_check_first) : Df P w K mg base 1 "check_first" P_check_first s_check_first sp_check_first := by
  refine A.df fun f fd F => F.ok sc_check_first (fun vs H Q E h => ?_) (fun cdv AA outer s H vs Q E hr h => ?_)
  · obtain ⟨_, rfl, _⟩ := h
    rfl
  · obtain ⟨j, rfl, q⟩ := h
    have nd := sc_check_first.nd
    refine ⟨_, (pss_one (ps_if (pt_cmpR op_lt (pv 0) pe_int (nomark _)) (pss_one ps_never) pss_nil)), ?_⟩
    refine ⟨_, rfl, _, _, rfl, rfl, _, rfl, ?_⟩
    rw [decide_eq_false (by omega)]
    exact iteF q
end
end El
namespace El
open PySem PySem.Spec PyProof.Rows L2
section
variable {P : Program} {w : World} {K : PySem.W.Frag} {mg : Str → Option Value} {base : Heap}
abbrev s_places : Stmt := topS 17
abbrev N_places : List Str := ["size", "patience"]
abbrev P_places : List Str := ["size", "patience"]
theorem sc_places : FnScope N_places P_places (defScope s_places) := ⟨rfl, rfl, rfl, by decide +kernel, rfl, by decide +kernel, by decide +kernel⟩
def sp_places : Sp := fun vs H Q _ => ∃ z p : Int, vs = [.int z, .int p] ∧ Q (.int (plc z p)) H
theorem ok_places (A : At K mg "places" P_places s_places) (B : Bi mg) : Df P w K mg base 1 "places" P_places s_places sp_places := by
  refine A.df fun f fd F => F.ok sc_places (fun vs H Q E h => ?_) (fun cdv AA outer s H vs Q E hr h => ?_)
  · obtain ⟨_, _, rfl, _⟩ := h
    rfl
  · obtain ⟨z, p, rfl, q⟩ := h
    have nd := sc_places.nd
    refine ⟨_, (pss_one (ps_ret (pe_callB (call_max2 rfl) (by rfl) B.max (by decide +kernel) (pa_cons pe_int (pa_cons (pe_op op_sub (pe_op op_add (pv 1) pe_int) (pv 0)) pa_nil))))), ?_⟩
    refine ⟨.int p, rfl, _, _, rfl, rfl, .int z, rfl, _, _, rfl, rfl, _, _, rfl, ?_⟩
    have e : (if p + 1 - z > 0 then p + 1 - z else 0) = plc z p := by
      unfold plc
      split <;> omega
    rw [e]
    exact q
end
end El
namespace El
open PySem PySem.Spec PyProof.Rows L2
section
variable {P : Program} {w : World} {K : PySem.W.Frag} {mg : Str → Option Value} {base : Heap}
abbrev s_grown_rooms : Stmt := topS 18
abbrev N_grown_rooms : List Str := ["size", "many", "patience", "taken", "full", "rest"]
abbrev P_grown_rooms : List Str := ["size", "many", "patience", "taken"]
theorem sc_grown_rooms : FnScope N_grown_rooms P_grown_rooms (defScope s_grown_rooms) := ⟨rfl, rfl, rfl, by decide +kernel, rfl, by decide +kernel, by decide +kernel⟩
theorem GsAt.of_paired {H : Hp} {B : Addr → Prop} {q : Addr} {ts : List Addr} {gs : List (Int × Int)} (e : H q = some (.lst (ts.map V.ref))) (hq : B q) (hb : ∀ t ∈ ts, B t) (p : Paired (fun (t : Addr) (g : Int × Int) => H t = some (.tup [.int g.1, .int g.2])) ts gs) : GsAt H B q ts gs := by
  refine ⟨e, hq, Paired.length p, fun i t g e1 e2 => ?_, hb⟩
  have key : ∀ {ts : List Addr} {gs : List (Int × Int)}, Paired (fun (t : Addr) (g : Int × Int) => H t = some (.tup [.int g.1, .int g.2])) ts gs → ∀ {i : Nat}, ts[i]? = some t → gs[i]? = some g → H t = some (.tup [.int g.1, .int g.2]) := by
    intro ts gs p
    induction p with
    | nil => exact fun e _ => by simp at e
    | cons r _ ih =>
      intro i e1 e2
      cases i with
      | zero =>
        obtain rfl := Option.some.inj e1
        obtain rfl := Option.some.inj e2
        exact r
      | succ i => exact ih e1 e2
  exact key p e1 e2
theorem short_div {x y : Int} (h0 : 0 < y) (h : y < 2 ^ 200) : Builtin.divisionGoesByPylong x y = false := by
  have hy : y.natAbs.log2 < 200 := (Nat.log2_lt (by omega)).mpr (by omega)
  unfold Builtin.divisionGoesByPylong
  rw [Bool.and_eq_false_iff]
  refine .inl (decide_eq_false ?_)
  have : (y == 0) = false := beq_eq_false_iff_ne.mpr (by omega)
  simp only [this]
  show ¬ (y.natAbs.log2 / 30 + 1 > 300)
  omega
def sp_grown_rooms : Sp := fun vs H Q _ => ∃ z c p k : Int, vs = [.int z, .int c, .int p, .int k] ∧ (k = 0 ∨ 0 < plc z p ∧ plc z p < 2 ^ 200) ∧ ∀ H' q us, Same H H' → GsAt H' (fun b => H b = none) q us (grownR z c p k) → Q (.ref q) H'
theorem ok_grown_rooms (A : At K mg "grown_rooms" P_grown_rooms s_grown_rooms) (B : Bi mg) (D_places : Df P w K mg base 1 "places" P_places s_places sp_places) : Df P w K mg base 2 "grown_rooms" P_grown_rooms s_grown_rooms sp_grown_rooms := by
  refine A.df fun f fd F => F.ok sc_grown_rooms (fun vs H Q E h => ?_) (fun cdv AA outer s H vs Q E hr h => ?_)
  · obtain ⟨_, _, _, _, rfl, _⟩ := h
    rfl
  · obtain ⟨z, c, p, k, rfl, hb, q⟩ := h
    have nd := sc_grown_rooms.nd
    refine ⟨_, (pss_cons (ps_if (pt_cmpR op_eq (pv 3) pe_int (nomark _)) (pss_one (ps_ret (pe_lst (pa_cons (pe_tup (pa_cons (pv 0) (pa_cons (pv 1) pa_nil))) pa_nil)))) pss_nil)
    (pss_cons (ps_asg (pe_callB call_divmodW (by rfl) B.divmod (by decide +kernel) (pa_cons (pv 3) (pa_cons (pe_df D_places (hr.mono (by decide)) (by rfl) (pa_cons (pv 0) (pa_cons (pv 2) pa_nil))) pa_nil))) (pg_tup (by rfl) (pgs_cons (pg_name (i := 4) nd rfl (.inl rfl)) (pgs_cons (pg_name (i := 5) nd rfl (.inl rfl)) pgs_nil))))
    (pss_cons (ps_if (pt_cmpR op_eq (pv 5) pe_int (nomark _)) (pss_one (ps_ret (pe_lst (pa_cons (pe_tup (pa_cons (pe_op op_add (pv 2) pe_int) (pa_cons (pv 4) pa_nil))) (pa_cons (pe_tup (pa_cons (pv 0) (pa_cons (pe_op op_sub (pv 1) (pv 4)) pa_nil))) pa_nil))))) pss_nil)
    (pss_one (ps_ret (pe_lst (pa_cons (pe_tup (pa_cons (pe_op op_add (pv 2) pe_int) (pa_cons (pv 4) pa_nil))) (pa_cons (pe_tup (pa_cons (pe_op op_add (pv 0) (pv 5)) (pa_cons pe_int pa_nil))) (pa_cons (pe_tup (pa_cons (pv 0) (pa_cons (pe_op op_sub (pe_op op_sub (pv 1) (pv 4)) pe_int) pa_nil))) pa_nil))))))))), ?_⟩
    unfold grownR at q
    refine ⟨.int k, rfl, rfl, _, rfl, ?_⟩
    by_cases k0 : k = 0
    · rw [if_pos k0] at q
      refine ifYes (by show decide (V.int k = V.int 0) = true; rw [k0]; rfl) ?_
      refine ⟨.int z, rfl, .int c, rfl, (by show 2 ≤ sizeLine; decide), fun t nt => ⟨(by show 1 ≤ sizeLine; decide), fun l nl => ?_⟩⟩
      have s1 := same_new (o := .tup [.int z, .int c]) nt
      have s2 := same_new (o := .lst [.ref t]) nl
      exact q _ l [t] (s1.trans s2) (GsAt.of_paired upd_same (s1.free nl) (fun b m => by rw [List.mem_singleton.mp m]; exact nt) (.cons (s2 _ _ upd_same) .nil))
    · rw [if_neg k0] at q
      refine ifNo (by show decide (V.int k = V.int 0) = false; simp [k0]) ?_
      obtain ⟨b0, b1⟩ := hb.resolve_left k0
      refine ⟨.int k, rfl, .int z, rfl, .int p, rfl, z, p, rfl, _, _, rfl, ⟨b0, short_div b0 b1⟩, fun D nD => ?_⟩
      have sD := same_new (o := .tup [.int (k / plc z p), .int (k % plc z p)]) nD
      refine ⟨D, _, rfl, SqT.of upd_same, rfl, .int (k / plc z p), _, rfl, .int (k % plc z p), _, rfl, rfl, ?_⟩
      refine ⟨.int (k % plc z p), rfl, rfl, _, rfl, ?_⟩
      by_cases k1 : k % plc z p = 0
      · rw [if_pos k1] at q
        refine ifYes (by show decide (V.int (k % plc z p) = V.int 0) = true; rw [k1]; rfl) ?_
        refine ⟨.int p, rfl, _, _, rfl, rfl, .int (k / plc z p), rfl, (by show 2 ≤ sizeLine; decide), fun t1 n1 => ?_⟩
        refine ⟨.int z, rfl, .int c, rfl, .int (k / plc z p), rfl, _, _, rfl, rfl, (by show 2 ≤ sizeLine; decide), fun t2 n2 => ⟨(by show 2 ≤ sizeLine; decide), fun l nl => ?_⟩⟩
        have s1 := same_new (o := .tup [.int (p + 1), .int (k / plc z p)]) n1
        have s2 := same_new (o := .tup [.int z, .int (c - k / plc z p)]) n2
        have s3 := same_new (o := .lst [.ref t1, .ref t2]) nl
        exact q _ l [t1, t2] (sD.trans (s1.trans (s2.trans s3))) (GsAt.of_paired upd_same (sD.free (s1.free (s2.free nl))) (fun b m => by
          rcases List.mem_cons.mp m with rfl | m
          · exact sD.free n1
          · rw [List.mem_singleton.mp m]
            exact sD.free (s1.free n2)) (.cons (s3 _ _ (s2 _ _ upd_same)) (.cons (s3 _ _ upd_same) .nil)))
      · rw [if_neg k1] at q
        refine ifNo (by show decide (V.int (k % plc z p) = V.int 0) = false; simp [k1]) ?_
        refine ⟨.int p, rfl, _, _, rfl, rfl, .int (k / plc z p), rfl, (by show 2 ≤ sizeLine; decide), fun t1 n1 => ?_⟩
        refine ⟨.int z, rfl, .int (k % plc z p), rfl, _, _, rfl, rfl, (by show 2 ≤ sizeLine; decide), fun t2 n2 => ?_⟩
        refine ⟨.int z, rfl, .int c, rfl, .int (k / plc z p), rfl, _, _, rfl, rfl, _, _, rfl, rfl, (by show 2 ≤ sizeLine; decide), fun t3 n3 => ⟨(by show 3 ≤ sizeLine; decide), fun l nl => ?_⟩⟩
        have s1 := same_new (o := .tup [.int (p + 1), .int (k / plc z p)]) n1
        have s2 := same_new (o := .tup [.int (z + k % plc z p), .int 1]) n2
        have s3 := same_new (o := .tup [.int z, .int (c - k / plc z p - 1)]) n3
        have s4 := same_new (o := .lst [.ref t1, .ref t2, .ref t3]) nl
        exact q _ l [t1, t2, t3] (sD.trans (s1.trans (s2.trans (s3.trans s4)))) (GsAt.of_paired upd_same (sD.free (s1.free (s2.free (s3.free nl)))) (fun b m => by
          rcases List.mem_cons.mp m with rfl | m
          · exact sD.free n1
          rcases List.mem_cons.mp m with rfl | m
          · exact sD.free (s1.free n2)
          · rw [List.mem_singleton.mp m]
            exact sD.free (s1.free (s2.free n3))) (.cons (s4 _ _ (s3 _ _ (s2 _ _ upd_same))) (.cons (s4 _ _ (s3 _ _ upd_same)) (.cons (s4 _ _ upd_same) .nil))))
end
end El
namespace El
open PySem PySem.Spec PyProof.Rows L2
section
variable {P : Program} {w : World} {K : PySem.W.Frag} {mg : Str → Option Value} {base : Heap}
abbrev s_after_crowd : Stmt := topS 16
abbrev N_after_crowd : List Str := ["filled", "count", "patience", "many_of", "left", "size", "many", "taken", "grown", "alike"]
abbrev P_after_crowd : List Str := ["filled", "count", "patience"]
theorem sc_after_crowd : FnScope N_after_crowd P_after_crowd (defScope s_after_crowd) := ⟨rfl, rfl, rfl, by decide +kernel, rfl, by decide +kernel, by decide +kernel⟩
theorem nodup_len : ∀ {l m : List Int}, l.Nodup → (∀ x ∈ l, x ∈ m) → l.length ≤ m.length
  | [], _, _, _ => Nat.zero_le _
  | x :: l, m, nd, h => by
    have ⟨n1, n2⟩ := List.nodup_cons.mp nd
    have mx := h x List.mem_cons_self
    have k := nodup_len (l := l) (m := m.erase x) n2 fun y my => (List.mem_erase_of_ne (show y ≠ x from fun e => n1 (by rw [← e]; exact my))).mpr (h y (List.mem_cons_of_mem _ my))
    rw [List.length_erase_of_mem mx] at k
    have := List.length_pos_of_mem mx
    show l.length + 1 ≤ m.length
    omega
def sp_after_crowd : Sp := fun vs H Q _ => ∃ (B : Addr → Prop) (a : Addr) (ts : List Addr) (R : List (Int × Int)) (L : List Int) (n p : Int), vs = [.ref a, .int n, .int p] ∧ GsAt H B a ts R ∧ Rle R L ∧ 0 ≤ n ∧ 0 ≤ p ∧ n < 2 ^ 190 ∧ p < 2 ^ 190 ∧ (∀ r ∈ R, r.2 < 2 ^ 190) ∧ R.length ≤ 1000 ∧
  ∀ (H' : Hp) (q : Addr) (us : List Addr) (R' : List (Int × Int)), Same H H' → GsAt H' (fun b => H b = none) q us R' → Rle R' (sitN p n.toNat L) → R'.length ≤ R.length + 3 → Q (.ref q) H'
theorem ok_after_crowd (A : At K mg "after_crowd" P_after_crowd s_after_crowd) (B : Bi mg) (D_places : Df P w K mg base 1 "places" P_places s_places sp_places) (D_grown_rooms : Df P w K mg base 2 "grown_rooms" P_grown_rooms s_grown_rooms sp_grown_rooms) : Df P w K mg base 3 "after_crowd" P_after_crowd s_after_crowd sp_after_crowd := by
  refine A.df fun f fd F => F.ok sc_after_crowd (fun vs H Q E h => ?_) (fun cdv AA outer s H vs Q E hr h => ?_)
  · obtain ⟨_, _, _, _, _, _, _, rfl, _⟩ := h
    rfl
  · obtain ⟨BB, a, ts, R, L, n, p, rfl, hG, hR, hn, hp, ln, lp, lR, hl, q⟩ := h
    have nd := sc_after_crowd.nd
    refine ⟨_, (pss_cons (ps_set (i := 3) nd rfl (.inl rfl) pe_dnewK)
    (pss_cons (ps_set (i := 4) nd rfl (.inl rfl) (pv 1))
    (pss_cons (ps_for PassesOwn.never rfl (pi_list (pe_lst (StX.pa_star (pv 0) (pa_cons (pe_tup (pa_cons pe_int (pa_cons (pv 1) pa_nil))) pa_nil)))) (pg_tup (by rfl) (pgs_cons (pg_name (i := 5) nd rfl (.inl rfl)) (pgs_cons (pg_name (i := 6) nd rfl (.inl rfl)) pgs_nil))) (pss_cons (ps_set (i := 7) nd rfl (.inl rfl) (pe_callB (call_min2 rfl) (by rfl) B.min (by decide +kernel) (pa_cons (pv 4) (pa_cons (pe_op op_mulW (pv 6) (pe_df D_places (hr.mono (by decide)) (by rfl) (pa_cons (pv 5) (pa_cons (pv 2) pa_nil)))) pa_nil)))) (pss_cons (ps_aug (i := 4) nd rfl (.inl rfl) (pv 7) ip_sub) (pss_one (ps_for PassesOwn.never rfl (pi_list (pe_df D_grown_rooms (hr.mono (by decide)) (by rfl) (pa_cons (pv 5) (pa_cons (pv 6) (pa_cons (pv 2) (pa_cons (pv 7) pa_nil)))))) (pg_tup (by rfl) (pgs_cons (pg_name (i := 8) nd rfl (.inl rfl)) (pgs_cons (pg_name (i := 9) nd rfl (.inl rfl)) pgs_nil))) (pss_one (ps_dput (hu_of hr) (pv 3) (pv 8) (pe_op op_add (pe_dget2 (hu_of hr) (pv 3) (pv 8) pe_int ⟨rfl, rfl, rfl, rfl⟩) (pv 9)) rfl)))))))
    (pss_one (ps_ret (pe_callBK (cr_sortedPK (b := true) rfl) (by rfl) B.sorted (by decide +kernel) (pa_cons (pe_lock (pe_lc (own := [("size", 5), ("many", 6)]) rfl nd (pi_items (pv 3)) (blkOk_by (N := N_after_crowd) (sc := defScope s_after_crowd) (by decide +kernel)) (fun _ _ _ _ _ => (pgTupK K 2 (by rfl) (pgs_cons (pg_name (i := 5) nd rfl (.inl rfl)) (pgs_cons (pg_name (i := 6) nd rfl (.inl rfl)) pgs_nil)))) (fun _ _ _ _ _ => (pts_one (PW.pt (pw_and (pt_cmpR op_gt (pv 5) pe_int (nomark _)) (pw_and1 (pt_cmpR op_gt (pv 6) pe_int (nomark _))))))) (fun _ _ _ _ _ => (pe_tup (pa_cons (pv 5) (pa_cons (pv 6) pa_nil)))))) pa_nil) (pk_cons pe_bl pk_nil))))))), ?_⟩
    -- many_of = {}
    refine fun d nd => ?_
    have s1 := same_new (o := .dK []) nd
    have G1 := hG.same s1
    refine ⟨.int n, rfl, ?_⟩
    dsimp only [gName]
    -- for size, many in [*filled, (0, count)]
    refine seq_to (fun σ H9 => ∃ y5 y6 y7 y8 y9 left gs E, σ = [some (.ref a), some (.int n), some (.int p), some (.ref d), some (.int left), y5, y6, y7, y8, y9] ∧ Kp (fun b => b ≠ d) H H9 ∧ H9 d = some (.dK (pks gs)) ∧ (∀ b, H9 b = none → H b = none) ∧ Hist gs E ∧ pour p n (ex (R ++ [(0, n)])) = ex E ∧ gs.length ≤ R.length + 3) (fun X hX => ?_) (fun σ H9 hE => ?_)
    · refine ⟨.ref a, rfl, a, ts.map V.ref, rfl, .inr G1.seq, .int n, rfl, (by show 2 ≤ sizeLine; decide), fun tt ntt => ⟨?_, fun l nl => ⟨l, rfl, ⟨_, SqL.of upd_same⟩, ?_⟩⟩⟩
      · rw [List.length_append, List.length_map, hG.len]
        show R.length + 1 ≤ sizeLine
        exact Nat.le_of_lt (ils (by omega))
      have s2 := same_new (o := .tup [.int 0, .int n]) ntt
      have s3 := same_new (o := .lst (ts.map V.ref ++ [.ref tt])) nl
      have GL := ((G1.same s2).same s3).cat (q := tt) (g := (0, n)) (l := l) (s3 _ _ upd_same) upd_same
      have k0 : Kp (fun b => b ≠ d) H (upd (upd (upd H d (.dK [])) tt (.tup [.int 0, .int n])) l (.lst (ts.map V.ref ++ [.ref tt]))) := .of (s1.trans (s2.trans s3))
      have e0 : (upd (upd (upd H d (.dK [])) tt (.tup [.int 0, .int n])) l (.lst (ts.map V.ref ++ [.ref tt]))) d = some (.dK (pks [])) := s3 _ _ (s2 _ _ upd_same)
      have v0 : ∀ b, (upd (upd (upd H d (.dK [])) tt (.tup [.int 0, .int n])) l (.lst (ts.map V.ref ++ [.ref tt]))) b = none → H b = none := fun b e => s1.free (s2.free (s3.free e))
      have dl : ∀ b, (b = l ∨ b ∈ ts ++ [tt]) → b ≠ d := fun b m z => by
        rcases m with m | m
        · rw [← m, z] at nl
          rw [s2 _ _ upd_same] at nl
          cases nl
        · obtain ⟨i, ei⟩ := List.mem_iff_getElem?.mp m
          have hl' := at_lt ei
          rw [GL.len] at hl'
          obtain ⟨g, eg⟩ := at_some hl'
          have := GL.at' i b g ei eg
          rw [z, e0] at this
          cases this
      have GLd := GL.reB (B' := fun b => b ≠ d) fun b m _ => dl b m
      revert GLd k0 e0 v0
      generalize upd (upd (upd H d (.dK [])) tt (.tup [.int 0, .int n])) l (.lst (ts.map V.ref ++ [.ref tt])) = HL
      clear GL dl
      intro k0 e0 v0 GLd
      have hRR : ∀ r ∈ R ++ [(0, n)], 0 ≤ r.1 ∧ 0 ≤ r.2 ∧ r.2 < 2 ^ 190 := fun r m => by
        rcases List.mem_append.mp m with m | m
        · have := hR.p r m
          exact ⟨by omega, by omega, lR r m⟩
        · rw [List.mem_singleton.mp m]
          exact ⟨Int.le_refl _, hn, ln⟩
      generalize hRRe : R ++ [(0, n)] = RR at GLd hRR hX ⊢
      have lRR : RR.length = R.length + 1 := by rw [← hRRe, List.length_append]; rfl
      refine for_it (walk_list (xs := ts.map V.ref ++ [.ref tt])) (fun i σ H2 => ∃ y5 y6 y7 y8 y9 left gs E W, σ = [some (.ref a), some (.int n), some (.int p), some (.ref d), some (.int left), y5, y6, y7, y8, y9] ∧ Kp (fun b => b ≠ d) HL H2 ∧ H2 d = some (.dK (pks gs)) ∧ (∀ b, H2 b = none → HL b = none) ∧ Hist gs E ∧
        pour p n (ex RR) = ex E ++ pour p left (ex (RR.drop i)) ∧ 0 ≤ left ∧ left ≤ n ∧ (∀ y ∈ gs.map (·.1), y ∈ (RR.take i).map (·.1) ++ [p + 1] ++ W) ∧ W.length ≤ 1 ∧ (W ≠ [] → left = 0))
        ⟨_, _, _, _, _, n, [], [], [], rfl, .refl, e0, fun _ e => e, Hist.nil, rfl, hn, Int.le_refl _, (fun y m => (List.not_mem_nil m).elim), Nat.zero_le _, fun h => absurd rfl h⟩ (fun i σ H2 _ hW => ?_) (fun i v σ H2 H3 hi hW hY => ?_) (fun σ H2 hW => ?_)
      · obtain ⟨_, _, _, _, _, _, _, _, _, _, k, _⟩ := hW
        have := (GLd.keep k).seq (K := K)
        rw [List.map_append] at this
        exact this
      · obtain ⟨y5, y6, y7, y8, y9, left, gs, E, W, rfl, k2, e2, v2, hH, hP, h0, h1, hK, hW1, hW2⟩ := hW
        obtain ⟨rfl, hx⟩ := hY
        obtain ⟨t, ⟨z, c⟩, rfl, eg, et⟩ := (GLd.keep k2).get (by rw [List.map_append]; exact hx)
        obtain ⟨z0, c0, c1⟩ := hRR _ (List.mem_of_getElem? eg)
        refine ⟨t, _, rfl, SqT.of et, rfl, .int z, _, rfl, .int c, _, rfl, rfl, ?_⟩
        have pl0 := plc_nn z p
        have pl1 : plc z p < 2 ^ 191 := by
          unfold plc
          omega
        refine ⟨.int left, rfl, .int c, rfl, .int z, rfl, .int p, rfl, z, p, rfl, _, _, rfl, rfl, ?_, _, _, rfl, ?_⟩
        · have a1 : c.natAbs.log2 ≤ 200 := by
            by_cases hc : c = 0
            · rw [hc]
              decide
            · exact Nat.le_of_lt ((Nat.log2_lt (by omega)).mpr (by omega))
          have a2 : (plc z p).natAbs.log2 ≤ 200 := by
            by_cases hc : plc z p = 0
            · rw [hc]
              decide
            · exact Nat.le_of_lt ((Nat.log2_lt (by omega)).mpr (by omega))
          show c.natAbs.log2 + (plc z p).natAbs.log2 < 1000000
          omega
        have hk : (if c * plc z p < left then c * plc z p else left) = min left (c * plc z p) := by split <;> omega
        rw [hk]
        have hcb : 0 ≤ c * plc z p := Int.mul_nonneg c0 pl0
        have hrun : pour p left (ex (RR.drop i)) = ex (grownR z c p (min left (c * plc z p))) ++ pour p (left - min left (c * plc z p)) (ex (RR.drop (i + 1))) := by
          obtain ⟨hi', ei'⟩ := List.getElem?_eq_some_iff.mp eg
          rw [List.drop_eq_getElem_cons hi', ei', ex_cons]
          have := pour_run (p := p) (z := z) (c := c.toNat) (n := left) (X := ex (RR.drop (i + 1))) h0
          rw [show ((c.toNat : Nat) : Int) = c by omega] at this
          exact this
        have hkz : min left (c * plc z p) = 0 ∨ 0 < plc z p := by
          by_cases hz : plc z p = 0
          · left
            rw [hz, Int.mul_zero]
            omega
          · right
            omega
        have hw : min left (c * plc z p) % plc z p ≠ 0 → left - min left (c * plc z p) = 0 := fun h => by
          by_cases hlt : c * plc z p < left
          · rw [show min left (c * plc z p) = c * plc z p by omega, Int.mul_emod_left] at h
            exact absurd rfl h
          · omega
        have hk1 : 0 ≤ min left (c * plc z p) ∧ min left (c * plc z p) ≤ left := by omega
        have hkc : min left (c * plc z p) ≤ c * plc z p := by omega
        clear hk
        generalize min left (c * plc z p) = k at hrun hkz hw hk1 hkc ⊢
        dsimp only [gName]
        -- left -= taken
        refine ⟨.int left, rfl, .int k, rfl, left, k, rfl, rfl, ?_⟩
        -- for grown, alike in grown_rooms(..)
        refine ⟨.int z, rfl, .int c, rfl, .int p, rfl, .int k, rfl, z, c, p, k, rfl, hkz.imp id fun h => ⟨h, by omega⟩, fun H4 l4 us4 s4 G4 => ⟨l4, rfl, ⟨_, G4.seq⟩, ?_⟩⟩
        have e4 := s4 _ _ e2
        have d4 : H3 d ≠ none := fun e => by rw [e2] at e; cases e
        have G4d := G4.weaken (B' := fun b => b ≠ d) fun b e z => d4 (z ▸ e)
        have hpc : ∀ r ∈ grownR z c p k, 0 ≤ r.2 := by
          intro r m
          have hq : 0 ≤ k / plc z p := Int.ediv_nonneg hk1.1 pl0
          unfold grownR at m
          by_cases k0 : k = 0
          · rw [if_pos k0, List.mem_singleton] at m
            rw [m]
            exact c0
          rw [if_neg k0] at m
          have b0 := hkz.resolve_left k0
          have h5 : k / plc z p ≤ c := by
            have := Int.ediv_le_ediv b0 hkc
            rw [Int.mul_ediv_cancel _ (by omega)] at this
            exact this
          by_cases k1 : k % plc z p = 0
          · rw [if_pos k1] at m
            rcases List.mem_cons.mp m with m | m
            · rw [m]
              exact hq
            · rw [List.mem_singleton.mp m]
              show 0 ≤ c - k / plc z p
              omega
          · rw [if_neg k1] at m
            have h6 : k / plc z p < c := by
              refine Int.ediv_lt_of_lt_mul b0 ?_
              rcases Int.lt_or_lt_of_ne (show k ≠ c * plc z p from fun e => k1 (by rw [e, Int.mul_emod_left])) with h | h
              · exact h
              · omega
            rcases List.mem_cons.mp m with m | m
            · rw [m]
              exact hq
            rcases List.mem_cons.mp m with m | m
            · rw [m]
              show (0 : Int) ≤ 1
              decide
            · rw [List.mem_singleton.mp m]
              show 0 ≤ c - k / plc z p - 1
              omega
        have hkeys : ∃ W', W'.length ≤ 1 ∧ (W' ≠ [] → left - k = 0) ∧ (∀ y ∈ (RR.take i).map (·.1) ++ [p + 1] ++ W, y ∈ (RR.take (i + 1)).map (·.1) ++ [p + 1] ++ W') ∧ ∀ y ∈ (grownR z c p k).map (·.1), y ∈ (RR.take (i + 1)).map (·.1) ++ [p + 1] ++ W' := by
          have ht : (RR.take (i + 1)).map (·.1) = (RR.take i).map (·.1) ++ [z] := by rw [take_snoc eg, List.map_append]; rfl
          have old_ : ∀ {W2 : List Int}, (∀ y ∈ W, y ∈ W2) → ∀ y ∈ (RR.take i).map (·.1) ++ [p + 1] ++ W, y ∈ (RR.take (i + 1)).map (·.1) ++ [p + 1] ++ W2 := fun hs y m => by
            rw [ht]
            simp only [List.mem_append] at m ⊢
            rcases m with (m | m) | m
            · exact .inl (.inl (.inl m))
            · exact .inl (.inr m)
            · exact .inr (hs y m)
          have zin : ∀ W2 : List Int, z ∈ (RR.take (i + 1)).map (·.1) ++ [p + 1] ++ W2 := fun W2 => by
            rw [ht]
            simp only [List.mem_append, List.mem_singleton]
            exact .inl (.inl (.inr trivial))
          have pin : ∀ W2 : List Int, p + 1 ∈ (RR.take (i + 1)).map (·.1) ++ [p + 1] ++ W2 := fun W2 => by
            simp only [List.mem_append, List.mem_singleton]
            exact .inl (.inr trivial)
          unfold grownR
          by_cases k0 : k = 0
          · rw [if_pos k0]
            refine ⟨W, hW1, fun h => by rw [hW2 h, k0]; rfl, old_ fun y m => m, fun y m => ?_⟩
            rw [List.mem_singleton.mp m]
            exact zin W
          rw [if_neg k0]
          have wn : W = [] := by
            cases W with
            | nil => rfl
            | cons x W =>
              have := hW2 (List.cons_ne_nil x W)
              omega
          by_cases k1 : k % plc z p = 0
          · rw [if_pos k1]
            refine ⟨W, hW1, fun h => absurd wn h, old_ fun y m => m, fun y m => ?_⟩
            rcases List.mem_cons.mp m with m | m
            · rw [m]
              exact pin W
            · rw [List.mem_singleton.mp m]
              exact zin W
          · rw [if_neg k1]
            refine ⟨[z + k % plc z p], Nat.le_refl _, fun _ => hw k1, old_ fun y m => by rw [wn] at m; exact (List.not_mem_nil m).elim, fun y m => ?_⟩
            rcases List.mem_cons.mp m with m | m
            · rw [m]
              exact pin _
            rcases List.mem_cons.mp m with m | m
            · rw [m]
              exact List.mem_append_right _ (List.mem_singleton.mpr rfl)
            · rw [List.mem_singleton.mp m]
              exact zin _
        obtain ⟨W', w1, w2, w3, w4⟩ := hkeys
        have lpc : (grownR z c p k).length ≤ 3 := by
          unfold grownR
          split
          · exact Nat.le_add_left 1 2
          · split
            · exact Nat.le_add_left 2 1
            · exact Nat.le_refl 3
        generalize hpe : grownR z c p k = pcs at G4 G4d hpc w4 hrun lpc
        refine for_it (walk_list (xs := us4.map V.ref)) (fun j σ H5 => ∃ y8 y9 gs5, σ = [some (.ref a), some (.int n), some (.int p), some (.ref d), some (.int (left - k)), some (.int z), some (.int c), some (.int k), y8, y9] ∧ Kp (fun b => b ≠ d) H4 H5 ∧ H5 d = some (.dK (pks gs5)) ∧ (∀ b, H5 b = none → H4 b = none) ∧ Hist gs5 (E ++ pcs.take j) ∧ (∀ y ∈ gs5.map (·.1), y ∈ (RR.take (i + 1)).map (·.1) ++ [p + 1] ++ W'))
          ⟨_, _, gs, rfl, .refl, e4, fun _ e => e, by rw [List.take_zero, List.append_nil]; exact hH, fun y m => w3 y (hK y m)⟩ (fun j σ H5 _ hV => ?_) (fun j v σ H5 H6 hj hV hY => ?_) (fun σ H5 hV => ?_)
        · obtain ⟨_, _, _, _, k5, _⟩ := hV
          exact (G4d.keep k5).seq
        · obtain ⟨y8, y9, gs5, rfl, k5, e5, v5, hH5, hK5⟩ := hV
          obtain ⟨rfl, hx5⟩ := hY
          obtain ⟨t5, ⟨y, c'⟩, rfl, eg5, et5⟩ := (G4d.keep k5).get hx5
          have l5 : gs5.length ≤ 1010 := by
            have := nodup_len hH5.nd hK5
            rw [List.length_map, List.length_append, List.length_append, List.length_map, List.length_take] at this
            have h1 : ([p + 1] : List Int).length = 1 := rfl
            omega
          refine ⟨t5, _, rfl, SqT.of et5, rfl, .int y, _, rfl, .int c', _, rfl, rfl, ?_⟩
          have hv := val_pof hH5.nd y
          refine ⟨.ref d, rfl, d, rfl, .inl ⟨_, .inl e5⟩, .int y, rfl, _, DGet.k (k := Sum.inl y) e5, .int c', rfl, _, _, hv, rfl, .ref d, rfl, .int y, rfl, d, _, rfl, DPut.k (k := Sum.inl y) e5 (ils (by rw [pks_len]; omega)), ?_⟩
          rw [putG_pks]
          have hput := hH5.put (y := y) (c := c') (hpc _ (List.mem_of_getElem? eg5))
          rw [List.append_assoc, ← take_snoc eg5] at hput
          refine ⟨_, _, _, rfl, k5.mut (fun z => z rfl), upd_same, fun b e => ?_, hput, fun x mx => ?_⟩
          · by_cases hb : b = d
            · rw [hb, upd_same] at e
              cases e
            · rw [upd_ne hb] at e
              exact v5 b e
          · rw [putG_keys] at mx
            by_cases hm : y ∈ gs5.map (·.1)
            · rw [if_pos hm] at mx
              exact hK5 x mx
            · rw [if_neg hm] at mx
              rcases List.mem_append.mp mx with mx | mx
              · exact hK5 x mx
              · rw [List.mem_singleton.mp mx]
                exact w4 y (List.mem_map_of_mem (f := Prod.fst) (List.mem_of_getElem? eg5))
        · obtain ⟨y8, y9, gs5, rfl, k5, e5, v5, hH5, hK5⟩ := hV
          rw [List.length_map, G4.len, List.take_length] at hH5
          refine ⟨_, _, _, _, _, left - k, gs5, E ++ pcs, W', rfl, (k2.trans (.of s4)).trans k5, e5, fun b e => v2 b (s4.free (v5 b e)), hH5, ?_, by omega, by omega, hK5, w1, w2⟩
          rw [hP, hrun, ex_append, List.append_assoc]
      · obtain ⟨y5, y6, y7, y8, y9, left, gs, E, W, rfl, k2, e2, v2, hH, hP, h0, h1, hK, hW1, hW2⟩ := hW
        refine hX _ _ ⟨_, _, _, _, _, left, gs, E, rfl, k0.trans k2, e2, fun b e => v0 b (v2 b e), hH, ?_, ?_⟩
        · have lw : (ts.map V.ref ++ [V.ref tt]).length = RR.length := by
            rw [List.length_append, List.length_map, hG.len, lRR]
            rfl
          rw [hP, lw, List.drop_length]
          show ex E ++ [] = ex E
          exact List.append_nil _
        · have := nodup_len hH.nd hK
          rw [List.length_map, List.length_append, List.length_append, List.length_map, List.length_take] at this
          have h1 : ([p + 1] : List Int).length = 1 := rfl
          omega
    · obtain ⟨y5, y6, y7, y8, y9, left, gs, E, rfl, k9, e9, v9, hH, hP, lgs⟩ := hE
      -- [(size, many) for size, many in many_of.items() if size > 0 and many > 0]
      refine ⟨d, .dK (pks gs), e9, trivial, fun od => ⟨.ref d, rfl, d, od, pks gs, rfl, upd_same, fun D nD => ?_⟩⟩
      have dD : D ≠ d := fun z => by rw [z, upd_same] at nD; cases nD
      refine lc_it (walk_items (kvs := pks gs)) (fun k Hb => Kp (fun b => b ≠ D) (upd H9 d (.frz od (.dK (pks gs)))) Hb ∧ (∀ b, Hb b = none → upd H9 d (.frz od (.dK (pks gs))) b = none) ∧ ∃ us, GsAt Hb (fun b => upd H9 d (.frz od (.dK (pks gs))) b = none) D us ((gs.take k).filter live)) ⟨Kp.mut Kp.refl fun z => z rfl, fun b e => ?_, [], upd_same, nD, rfl, fun i t g e _ => by simp at e, fun t m => (List.not_mem_nil m).elim⟩ (fun k Hb _ hW => ?_) (fun k v Hb Hc hk hW hY => ?_) (fun Hb hW => ?_)
      · by_cases hb : b = D
        · rw [hb, upd_same] at e
          cases e
        · rw [upd_ne hb] at e
          exact e
      · exact hW.1 _ _ dD.symm upd_same
      · obtain ⟨kb, vb, us, Gb⟩ := hW
        obtain ⟨U, x1, x2, rfl, nU, rfl, f1, f2⟩ := hY
        rw [pks_len] at hk
        obtain ⟨g, eg⟩ := at_some hk
        have ep : (pks gs)[k]? = some ((Sum.inl g.1 : L2.Key), V.int g.2) := by
          rw [show pks gs = gs.map fun g => ((Sum.inl g.1 : L2.Key), V.int g.2) from rfl, List.getElem?_map, eg]
          rfl
        dsimp only at f1 f2
        rw [ep] at f1 f2
        obtain rfl : V.int g.1 = x1 := Option.some.inj f1
        obtain rfl : V.int g.2 = x2 := Option.some.inj f2
        have sU := same_new (o := .tup [V.int g.1, .int g.2]) nU
        have kU := kb.trans (.of sU)
        have vU : ∀ b, (upd Hb U (.tup [V.int g.1, .int g.2])) b = none → upd H9 d (.frz od (.dK (pks gs))) b = none := fun b e => vb b (sU.free e)
        have GU := Gb.same sU
        refine ⟨U, [.int g.1, .int g.2], rfl, SqT.of upd_same, rfl, .int g.1, [.int g.2], rfl, .int g.2, [], rfl, rfl, rfl, ?_⟩
        clear Gb kb vb sU
        revert kU vU GU
        generalize upd Hb U (.tup [V.int g.1, .int g.2]) = Hc
        intro kU vU GU
        have no : ¬ (0 < g.1 ∧ 0 < g.2) → (gs.take (k + 1)).filter live = (gs.take k).filter live := fun h => by
          rw [take_snoc eg, List.filter_append, List.filter_cons_of_neg (by
            unfold live
            rw [Bool.and_eq_true, decide_eq_true_iff, decide_eq_true_iff]
            exact h), List.filter_nil, List.append_nil]
        refine ⟨.int g.1, rfl, _, _, rfl, rfl, _, rfl, ?_⟩
        by_cases h1 : 0 < g.1
        · refine ifYes (decide_eq_true h1) ⟨.int g.2, rfl, _, _, rfl, rfl, _, rfl, ?_⟩
          by_cases h2 : 0 < g.2
          · refine ifYes (decide_eq_true h2) ⟨.int g.1, rfl, .int g.2, rfl, (by show 2 ≤ sizeLine; decide), fun T nT => ?_⟩
            have sT := same_new (o := .tup [V.int g.1, .int g.2]) nT
            have GT := GU.same sT
            refine ⟨_, GT.top, ils ?_, (kU.trans (.of sT)).mut fun z => z rfl, fun b e => ?_, us ++ [T], ?_⟩
            · have := List.length_filter_le live (gs.take k)
              rw [List.length_take] at this
              rw [List.length_map, GT.len]
              omega
            · by_cases hb : b = D
              · rw [hb, upd_same] at e
                cases e
              · rw [upd_ne hb] at e
                exact vU b (sT.free e)
            · have hD : D ∉ us := fun m => by
                obtain ⟨i, ei⟩ := List.mem_iff_getElem?.mp m
                have hl' := at_lt ei
                rw [GT.len] at hl'
                obtain ⟨x, ex'⟩ := at_some hl'
                have := GT.at' i D x ei ex'
                rw [GT.top] at this
                cases this
              rw [take_snoc eg, List.filter_append, List.filter_cons_of_pos (by
                unfold live
                rw [decide_eq_true h1, decide_eq_true h2]
                rfl), List.filter_nil]
              exact GT.push hD (q := T) (g := g) upd_same (vU T nT)
          · refine ifNo (decide_eq_false h2) ?_
            rw [no fun h => h2 h.2]
            exact ⟨kU, vU, us, GU⟩
        · refine ifNo (decide_eq_false h1) ?_
          rw [no fun h => h1 h.1]
          exact ⟨kU, vU, us, GU⟩
      · obtain ⟨kb, vb, us, Gb⟩ := hW
        rw [pks_len, List.take_length] at Gb
        have ed : Hb d = some (.frz od (.dK (pks gs))) := kb _ _ dD.symm upd_same
        refine ⟨ed, ?_⟩
        have nd9 : ∀ b, upd H9 d (.frz od (.dK (pks gs))) b = none → b ≠ d ∧ H9 b = none := fun b e => by
          have : b ≠ d := fun z => by rw [z, upd_same] at e; cases e
          rw [upd_ne this] at e
          exact ⟨this, e⟩
        have Gu : GsAt (upd Hb d (.dK (pks gs))) (fun b => upd H9 d (.frz od (.dK (pks gs))) b = none) D us (gs.filter live) := Gb.keep (Kp.mut Kp.refl fun e => (nd9 d e).1 rfl)
        have lu : ∀ b, upd Hb d (.dK (pks gs)) b = none → upd H9 d (.frz od (.dK (pks gs))) b = none := fun b e => by
          by_cases z : b = d
          · rw [z, upd_same] at e
            cases e
          · rw [upd_ne z] at e
            exact vb b e
        have su : Same H (upd Hb d (.dK (pks gs))) := fun b u e => by
          have b1 : b ≠ d := fun z => by rw [z, nd] at e; cases e
          have b2 : b ≠ D := fun z => by
            have := v9 D (nd9 D nD).2
            rw [z, this] at e
            cases e
          rw [upd_ne b1]
          refine kb b u b2 ?_
          rw [upd_ne b1]
          exact k9 b u b1 e
        refine ⟨D, _, prOf (upd Hb d (.dK (pks gs))), rfl, rfl, Gu.seq, Gu.mem, fun ys p2 hs hb np2 => ?_⟩
        have eM : sitN p n.toNat L = pos (ex E) := by
          have lp' : ∀ s ∈ L, 0 < s := fun s m => by
            rw [hR.e] at m
            obtain ⟨r, mr, er⟩ := ex_mem m
            rw [← er]
            exact (hR.p r mr).1
          have := pour_sit hp (n := n.toNat) (m := n.toNat) (Nat.le_refl _) lp'
          rw [← this, ← hP, ex_append, ← hR.e, show ((n.toNat : Nat) : Int) = n by omega, ex_cons, ex_nil, List.append_nil]
        obtain ⟨Ff, Rl⟩ := hH.rle eM (sitN_dn hp (by rw [hR.e]; exact ex_dn hR.d))
        have hys := sorted_down Ff Gu.prs hs hb
        rw [if_pos rfl]
        have s3 : Same (upd Hb d (.dK (pks gs))) (upd (upd Hb d (.dK (pks gs))) p2 (.lst ys.reverse)) := same_new np2
        obtain ⟨us4, G4, _, hus⟩ := Gu.sortedN (H' := upd (upd Hb d (.dK (pks gs))) p2 (.lst ys.reverse)) (p := p2) (zs := ys.reverse) s3 ((List.reverse_perm ys).trans hb) hys upd_same
        refine q _ p2 us4 _ (su.trans s3) (G4.reB fun b m _ => ?_) Rl ?_
        · rcases m with m | m
          · rw [m]
            exact v9 _ (nd9 _ (lu _ np2)).2
          · exact v9 _ (nd9 _ (Gu.b b (hus b m))).2
        · rw [byAge_length]
          exact Nat.le_trans (List.length_filter_le _ _) lgs
end
end El
namespace El
open PySem PySem.Spec PyProof.Rows L2
section
variable {P : Program} {w : World} {K : PySem.W.Frag} {mg : Str → Option Value} {base : Heap}
abbrev s_is_crowd : Stmt := topS 9
abbrev N_is_crowd : List Str := ["count", "patience"]
abbrev P_is_crowd : List Str := ["count", "patience"]
theorem sc_is_crowd : FnScope N_is_crowd P_is_crowd (defScope s_is_crowd) := ⟨rfl, rfl, rfl, by decide +kernel, rfl, by decide +kernel, by decide +kernel⟩
def sp_is_crowd : Sp := fun vs H Q _ => ∃ c p : Int, vs = [.int c, .int p] ∧ Q (.bl (decide (1 ≤ c) && decide (0 ≤ p))) H
theorem ok_is_crowd (A : At K mg "is_crowd" P_is_crowd s_is_crowd) : Df P w K mg base 1 "is_crowd" P_is_crowd s_is_crowd sp_is_crowd := by
  refine A.df fun f fd F => F.ok sc_is_crowd (fun vs H Q E h => ?_) (fun cdv AA outer s H vs Q E hr h => ?_)
  · obtain ⟨_, _, rfl, _⟩ := h
    rfl
  · obtain ⟨c, p, rfl, q⟩ := h
    have nd := sc_is_crowd.nd
    refine ⟨_, (pss_one (ps_ret (pe_and (pe_cmpR op_ge (pv 0) pe_int (nomark _)) (pe_one (pe_cmpR op_ge (pv 1) pe_int (nomark _)))))), ?_⟩
    refine ⟨.int c, rfl, _, _, rfl, rfl, _, rfl, ite2 (fun e => ?_) (fun e => ?_)⟩
    · have e := of_decide_eq_true e
      rw [decide_eq_true e, Bool.true_and] at q
      exact ⟨.int p, rfl, _, _, rfl, rfl, q⟩
    · rw [decide_eq_false (fun z => e (decide_eq_true z)), Bool.false_and] at q
      exact q
end
end El
namespace El
open PySem PySem.Spec PyProof.Rows L2
section
variable {P : Program} {w : World} {K : PySem.W.Frag} {mg : Str → Option Value} {base : Heap}
abbrev s_check_crowds : Stmt := topS 10
abbrev N_check_crowds : List Str := ["crowds", "number", "count", "patience"]
abbrev P_check_crowds : List Str := ["crowds"]
theorem sc_check_crowds : FnScope N_check_crowds P_check_crowds (defScope s_check_crowds) := ⟨rfl, rfl, rfl, by decide +kernel, rfl, by decide +kernel, by decide +kernel⟩
def sp_check_crowds : Sp := fun vs H Q _ => ∃ (B : Addr → Prop) (a : Addr) (ts : List Addr) (cs : List (Int × Int)), vs = [.ref a] ∧ GsAt H B a ts cs ∧ Crw cs ∧ ∀ H', Same H H' → Q .non H'
theorem ok_check_crowds (A : At K mg "check_crowds" P_check_crowds s_check_crowds) (B : Bi mg) (D_is_crowd : Df P w K mg base 1 "is_crowd" P_is_crowd s_is_crowd sp_is_crowd) : Df P w K mg base 2 "check_crowds" P_check_crowds s_check_crowds sp_check_crowds := by
  refine A.df fun f fd F => F.ok sc_check_crowds (fun vs H Q E h => ?_) (fun cdv AA outer s H vs Q E hr h => ?_)
  · obtain ⟨_, _, _, _, rfl, _⟩ := h
    rfl
  · obtain ⟨BB, a, ts, cs, rfl, hG, hC, q⟩ := h
    have nd := sc_check_crowds.nd
    refine ⟨_, (pss_one (ps_for PassesOwn.never rfl (pi_enum (by rfl) B.enumerate (pa_cons (pv 0) pa_nil)) (pg_tup (by rfl) (pgs_cons (pg_name (i := 1) nd rfl (.inl rfl)) (pgs_cons (pg_tup (by rfl) (pgs_cons (pg_name (i := 2) nd rfl (.inl rfl)) (pgs_cons (pg_name (i := 3) nd rfl (.inl rfl)) pgs_nil))) pgs_nil))) (pss_one (ps_if (pt_not (pt_val (pe_df D_is_crowd (hr.mono (by decide)) (by rfl) (pa_cons (pv 2) (pa_cons (pv 3) pa_nil))))) (pss_one ps_never) pss_nil)))), ?_⟩
    refine ⟨.ref a, rfl, a, ts.map V.ref, rfl, hG.seq, ?_⟩
    refine for_it (walk_enum (xs := ts.map V.ref)) (fun i σ H2 => ∃ y2 y3 y4, σ = [some (.ref a), y2, y3, y4] ∧ Same H H2) ⟨none, none, none, rfl, Same.refl _⟩ (fun i σ H2 _ hW => ?_) (fun i x σ H2 H3 hi hW hY => ?_) (fun σ H2 hW => ?_)
    · obtain ⟨_, _, _, _, sm⟩ := hW
      exact (hG.same sm).seq
    · obtain ⟨y2, y3, y4, rfl, sm⟩ := hW
      obtain ⟨T, x1, x2, rfl, nT, rfl, f1, f2⟩ := hY
      obtain rfl : V.int ↑i = x1 := Option.some.inj f1
      obtain ⟨t, g, rfl, eg, et⟩ := (hG.same sm).get f2
      have s3 : Same H2 (upd H2 T (.tup [.int i, .ref t])) := same_new nT
      refine ⟨T, [.int i, .ref t], rfl, SqT.of upd_same, rfl, .int i, [.ref t], rfl, .ref t, [], rfl, ?_⟩
      refine ⟨t, _, rfl, SqT.of (s3 _ _ et), rfl, .int g.1, [.int g.2], rfl, .int g.2, [], rfl, rfl, rfl, ?_⟩
      have hg := hC g (List.mem_of_getElem? eg)
      refine ⟨.int g.1, rfl, .int g.2, rfl, g.1, g.2, rfl, _, rfl, ?_⟩
      rw [decide_eq_true hg.1, decide_eq_true hg.2]
      refine iteF ?_
      exact ⟨_, _, _, rfl, sm.trans s3⟩
    · obtain ⟨y2, y3, y4, rfl, sm⟩ := hW
      exact q H2 sm
end
end El
namespace El
open PySem PySem.Spec PyProof.Rows L2
section
variable {P : Program} {w : World} {K : PySem.W.Frag} {mg : Str → Option Value} {base : Heap}
abbrev s_crowd_sizes : Stmt := topS 12
abbrev N_crowd_sizes : List Str := ["crowds", "filled", "count", "patience"]
abbrev P_crowd_sizes : List Str := ["crowds"]
theorem sc_crowd_sizes : FnScope N_crowd_sizes P_crowd_sizes (defScope s_crowd_sizes) := ⟨rfl, rfl, rfl, by decide +kernel, rfl, by decide +kernel, by decide +kernel⟩
/-- the sizes of the rooms when crowd after crowd has come -/
def seat (cs : List (Int × Int)) : List Int := cs.foldl (fun L c => sitN c.2 c.1.toNat L) []
theorem seat_snoc (cs : List (Int × Int)) (c : Int × Int) : seat (cs ++ [c]) = sitN c.2 c.1.toNat (seat cs) := by
  unfold seat
  rw [List.foldl_append]
  rfl
theorem sit_len (p : Int) : ∀ L : List Int, (sit p L).length ≤ L.length + 1
  | [] => Nat.le_refl _
  | s :: L => by
    unfold sit
    split
    · exact Nat.le_succ _
    · exact Nat.succ_le_succ (sit_len p L)
theorem sitN_len (p : Int) : ∀ (n : Nat) (L : List Int), (sitN p n L).length ≤ L.length + n
  | 0, _ => Nat.le_refl _
  | n + 1, L => by
    have h1 := sitN_len p n (sit p L)
    have h2 := sit_len p L
    show (sitN p n (sit p L)).length ≤ L.length + (n + 1)
    omega
theorem ex_len : ∀ {R : List (Int × Int)} {r : Int × Int}, r ∈ R → r.2.toNat ≤ (ex R).length
  | x :: R, r, m => by
    rw [ex_cons, List.length_append, List.length_replicate]
    rcases List.mem_cons.mp m with e | m
    · rw [e]
      exact Nat.le_add_right _ _
    · exact Nat.le_trans (ex_len m) (Nat.le_add_left _ _)
def sp_crowd_sizes : Sp := fun vs H Q _ => ∃ (B : Addr → Prop) (a : Addr) (ts : List Addr) (cs : List (Int × Int)), vs = [.ref a] ∧ GsAt H B a ts cs ∧ Crw cs ∧ (∀ c ∈ cs, c.1 < 2 ^ 150 ∧ c.2 < 2 ^ 150) ∧ cs.length ≤ 100 ∧
  ∀ (H' : Hp) (q : Addr) (us : List Addr) (R : List (Int × Int)), Same H H' → GsAt H' (fun b => H b = none) q us R → Rle R (seat cs) → R.length ≤ 3 * cs.length → Q (.ref q) H'
theorem ok_crowd_sizes (A : At K mg "crowd_sizes" P_crowd_sizes s_crowd_sizes) (B : Bi mg) (D_check_crowds : Df P w K mg base 2 "check_crowds" P_check_crowds s_check_crowds sp_check_crowds) (D_after_crowd : Df P w K mg base 3 "after_crowd" P_after_crowd s_after_crowd sp_after_crowd) : Df P w K mg base 4 "crowd_sizes" P_crowd_sizes s_crowd_sizes sp_crowd_sizes := by
  refine A.df fun f fd F => F.ok sc_crowd_sizes (fun vs H Q E h => ?_) (fun cdv AA outer s H vs Q E hr h => ?_)
  · obtain ⟨_, _, _, _, rfl, _⟩ := h
    rfl
  · obtain ⟨BB, a, ts, cs, rfl, hG, hC, hc, hl, q⟩ := h
    have nd := sc_crowd_sizes.nd
    refine ⟨_, (pss_cons (ps_expr (pe_df D_check_crowds (hr.mono (by decide)) (by rfl) (pa_cons (pv 0) pa_nil)))
    (pss_cons (ps_set (i := 1) nd rfl (.inl rfl) (pe_lst pa_nil))
    (pss_cons (ps_for PassesOwn.never rfl (pi_list (pv 0)) (pg_tup (by rfl) (pgs_cons (pg_name (i := 2) nd rfl (.inl rfl)) (pgs_cons (pg_name (i := 3) nd rfl (.inl rfl)) pgs_nil))) (pss_one (ps_set (i := 1) nd rfl (.inl rfl) (pe_df D_after_crowd (hr.mono (by decide)) (by rfl) (pa_cons (pv 1) (pa_cons (pv 2) (pa_cons (pv 3) pa_nil)))))))
    (pss_one (ps_ret (pv 1)))))), ?_⟩
    refine ⟨.ref a, rfl, BB, a, ts, cs, rfl, hG, hC, fun H1 s1 => ?_⟩
    -- filled = []
    refine ⟨Nat.zero_le _, fun o no => ?_⟩
    dsimp only [gName]
    have s2 := s1.trans (same_new (o := .lst []) no)
    refine seq_to (fun σ H2 => ∃ y2 y3 o us R, σ = [some (.ref a), some (.ref o), y2, y3] ∧ Same H H2 ∧ GsAt H2 (fun b => H b = none) o us R ∧ Rle R (seat cs) ∧ R.length ≤ 3 * cs.length) (fun X hX => ?_) (fun σ H2 hE => ?_)
    · refine ⟨.ref a, rfl, a, rfl, ⟨_, (hG.same s2).seq⟩, ?_⟩
      refine for_it (walk_list (xs := ts.map V.ref)) (fun i σ H2 => ∃ y2 y3 o us R, σ = [some (.ref a), some (.ref o), y2, y3] ∧ Same H H2 ∧ GsAt H2 (fun b => H b = none) o us R ∧ Rle R (seat (cs.take i)) ∧ R.length ≤ 3 * i ∧ (seat (cs.take i)).length ≤ i * 2 ^ 150)
        ⟨_, _, o, [], [], rfl, s2, ⟨upd_same, s1.free no, rfl, fun i t g e _ => by simp at e, fun t m => (List.not_mem_nil m).elim⟩, ⟨rfl, .nil, fun r m => (List.not_mem_nil m).elim⟩, Nat.zero_le _, Nat.zero_le _⟩ (fun i σ H2 _ hW => ?_) (fun i v σ H2 H3 hi hW hY => ?_) (fun σ H2 hW => ?_)
      · obtain ⟨_, _, _, _, _, _, s3, _⟩ := hW
        exact (hG.same s3).seq
      · obtain ⟨y2, y3, o, us, R, rfl, s3, Go, Ro, lR, lL⟩ := hW
        obtain ⟨rfl, hx⟩ := hY
        obtain ⟨t, c, rfl, eg, et⟩ := (hG.same s3).get hx
        have hi' := at_lt eg
        have mc := List.mem_of_getElem? eg
        have c0 := hC c mc
        have c1 := hc c mc
        refine ⟨t, _, rfl, SqT.of et, rfl, .int c.1, _, rfl, .int c.2, _, rfl, rfl, ?_⟩
        have h1 : i * 2 ^ 150 ≤ 100 * 2 ^ 150 := Nat.mul_le_mul_right _ (by omega)
        refine ⟨.ref o, rfl, .int c.1, rfl, .int c.2, rfl, _, o, us, R, seat (cs.take i), c.1, c.2, rfl, Go, Ro, by omega, by omega, by omega, by omega, fun r m => ?_, by omega, fun H4 q4 us4 R4 s4 G4 Rl4 l4 => ?_⟩
        · have := ex_len m
          rw [← Ro.e] at this
          omega
        dsimp only [gName]
        refine ⟨_, _, q4, us4, R4, rfl, s3.trans s4, G4.weaken fun b e => s3.free e, ?_, by omega, ?_⟩
        · rw [take_snoc eg, seat_snoc]
          exact Rl4
        · rw [take_snoc eg, seat_snoc]
          have := sitN_len c.2 c.1.toNat (seat (cs.take i))
          have h2 : (i + 1) * 2 ^ 150 = i * 2 ^ 150 + 2 ^ 150 := by rw [Nat.add_mul, Nat.one_mul]
          omega
      · obtain ⟨y2, y3, o, us, R, rfl, s3, Go, Ro, lR, lL⟩ := hW
        rw [List.length_map, hG.len, List.take_length] at Ro
        rw [List.length_map, hG.len] at lR
        exact hX _ _ ⟨_, _, o, us, R, rfl, s3, Go, Ro, lR⟩
    · obtain ⟨y2, y3, o, us, R, rfl, s3, Go, Ro, lR⟩ := hE
      exact ⟨_, rfl, q H2 o us R s3 Go Ro lR⟩
end
end El
namespace El
open PySem PySem.Spec PyProof.Rows L2
section
variable {P : Program} {w : World} {K : PySem.W.Frag} {mg : Str → Option Value} {base : Heap}
abbrev s_crowd_in_first : Stmt := topS 13
abbrev N_crowd_in_first : List Str := ["crowds", "j", "filled", "told", "left", "size", "many", "counted"]
abbrev P_crowd_in_first : List Str := ["crowds", "j"]
theorem sc_crowd_in_first : FnScope N_crowd_in_first P_crowd_in_first (defScope s_crowd_in_first) := ⟨rfl, rfl, rfl, by decide +kernel, rfl, by decide +kernel, by decide +kernel⟩
/-- how many live in the first so many rooms -/
def inF (L : List Int) (j : Int) : Int := (L.take j.toNat).sum
theorem sum_rep (z : Int) : ∀ n : Nat, (List.replicate n z).sum = n * z
  | 0 => by simp
  | n + 1 => by
    rw [List.replicate_succ, List.sum_cons, sum_rep z n]
    rw [show ((n + 1 : Nat) : Int) = (n : Int) + 1 from rfl, Int.add_mul, Int.one_mul, Int.add_comm]
/-- run by run -/
theorem inF_run (z : Int) (c : Int) (X : List Int) (j : Int) (hc : 0 ≤ c) (hj : 0 ≤ j) : inF (List.replicate c.toNat z ++ X) j = min c j * z + inF X (j - min c j) := by
  unfold inF
  rw [List.take_append, List.sum_append, List.take_replicate, sum_rep, List.length_replicate]
  rw [show (min j.toNat c.toNat : Nat) = (min c j).toNat by omega, show (((min c j).toNat : Nat) : Int) = min c j by omega, show j.toNat - c.toNat = (j - min c j).toNat by omega]
theorem inF_nil (j : Int) : inF [] j = 0 := by
  unfold inF
  rw [List.take_nil]
  rfl
theorem sit_le {p M : Int} {L : List Int} (h : ∀ y ∈ L, y ≤ M) (hp : p + 1 ≤ M) (h1 : 1 ≤ M) : ∀ y ∈ sit p L, y ≤ M := fun y m => by
  rcases sit_mem m with z | z | z
  · exact h y z
  · omega
  · omega
theorem sitN_le {p M : Int} (hp : p + 1 ≤ M) (h1 : 1 ≤ M) : ∀ {n : Nat} {L : List Int}, (∀ y ∈ L, y ≤ M) → ∀ y ∈ sitN p n L, y ≤ M
  | 0, _, h => h
  | n + 1, L, h => sitN_le hp h1 (n := n) (L := sit p L) (sit_le h hp h1)
theorem lot_le {M : Int} (h1 : 1 ≤ M) : ∀ {cs : List (Int × Int)} {L : List Int}, (∀ c ∈ cs, c.2 + 1 ≤ M) → (∀ y ∈ L, y ≤ M) → ∀ y ∈ cs.foldl (fun L c => sitN c.2 c.1.toNat L) L, y ≤ M
  | [], _, _, h => h
  | c :: cs, L, hc, h => lot_le h1 (cs := cs) (L := sitN c.2 c.1.toNat L) (fun x m => hc x (List.mem_cons_of_mem _ m)) (sitN_le (hc c List.mem_cons_self) h1 h)
def sp_crowd_in_first : Sp := fun vs H Q _ => ∃ (B : Addr → Prop) (a : Addr) (ts : List Addr) (cs : List (Int × Int)) (j : Int), vs = [.ref a, .int j] ∧ GsAt H B a ts cs ∧ Crw cs ∧ (∀ c ∈ cs, c.1 < 2 ^ 150 ∧ c.2 < 2 ^ 150) ∧ cs.length ≤ 100 ∧ 0 ≤ j ∧ j < 2 ^ 190 ∧
  ∀ H', Same H H' → Q (.int (inF (seat cs) j)) H'
theorem ok_crowd_in_first (A : At K mg "crowd_in_first" P_crowd_in_first s_crowd_in_first) (B : Bi mg) (D_crowd_sizes : Df P w K mg base 4 "crowd_sizes" P_crowd_sizes s_crowd_sizes sp_crowd_sizes) (D_check_first : Df P w K mg base 1 "check_first" P_check_first s_check_first sp_check_first) : Df P w K mg base 5 "crowd_in_first" P_crowd_in_first s_crowd_in_first sp_crowd_in_first := by
  refine A.df fun f fd F => F.ok sc_crowd_in_first (fun vs H Q E h => ?_) (fun cdv AA outer s H vs Q E hr h => ?_)
  · obtain ⟨_, _, _, _, _, rfl, _⟩ := h
    rfl
  · obtain ⟨BB, a, ts, cs, j, rfl, hG, hC, hc, hl, hj, hj2, q⟩ := h
    obtain ⟨j, rfl⟩ : ∃ n : Nat, j = n := ⟨j.toNat, by omega⟩
    have nd := sc_crowd_in_first.nd
    refine ⟨_, (pss_cons (ps_set (i := 2) nd rfl (.inl rfl) (pe_df D_crowd_sizes (hr.mono (by decide)) (by rfl) (pa_cons (pv 0) pa_nil)))
    (pss_cons (ps_expr (pe_df D_check_first (hr.mono (by decide)) (by rfl) (pa_cons (pv 1) pa_nil)))
    (pss_cons (ps_set (i := 3) nd rfl (.inl rfl) pe_int)
    (pss_cons (ps_set (i := 4) nd rfl (.inl rfl) (pv 1))
    (pss_cons (ps_for PassesOwn.never rfl (pi_list (pv 2)) (pg_tup (by rfl) (pgs_cons (pg_name (i := 5) nd rfl (.inl rfl)) (pgs_cons (pg_name (i := 6) nd rfl (.inl rfl)) pgs_nil))) (pss_cons (ps_set (i := 7) nd rfl (.inl rfl) (pe_callB (call_min2 rfl) (by rfl) B.min (by decide +kernel) (pa_cons (pv 6) (pa_cons (pv 4) pa_nil)))) (pss_cons (ps_aug (i := 3) nd rfl (.inl rfl) (pe_op op_mulW (pv 7) (pv 5)) ip_add) (pss_one (ps_aug (i := 4) nd rfl (.inl rfl) (pv 7) ip_sub)))))
    (pss_one (ps_ret (pv 3)))))))), ?_⟩
    refine ⟨.ref a, rfl, BB, a, ts, cs, rfl, hG, hC, hc, hl, fun H1 o us R s1 G1 R1 lR => ?_⟩
    dsimp only [gName]
    refine ⟨.int j, rfl, j, rfl, .int j, rfl, ?_⟩
    dsimp only [gName]
    refine seq_to (fun σ H2 => ∃ y4 y5 y6 y7, σ = [some (.ref a), some (.int j), some (.ref o), some (.int (inF (seat cs) j)), y4, y5, y6, y7] ∧ Same H H2) (fun X hX => ?_) (fun σ H2 hE => ?_)
    · refine ⟨.ref o, rfl, o, rfl, ⟨_, G1.seq⟩, ?_⟩
      refine for_it (walk_list (xs := us.map V.ref)) (fun i σ H2 => ∃ told left y5 y6 y7, σ = [some (.ref a), some (.int j), some (.ref o), some (.int told), some (.int left), y5, y6, y7] ∧ Same H1 H2 ∧ 0 ≤ left ∧ left ≤ j ∧ inF (ex R) j = told + inF (ex (R.drop i)) left)
        ⟨0, j, _, _, _, rfl, fun _ _ e => e, by omega, Int.le_refl _, by rw [Int.zero_add]; rfl⟩ (fun i σ H2 _ hW => ?_) (fun i v σ H2 H3 hi hW hY => ?_) (fun σ H2 hW => ?_)
      · obtain ⟨_, _, _, _, _, _, s2, _⟩ := hW
        exact (G1.same s2).seq
      · obtain ⟨told, left, y5, y6, y7, rfl, s2, h0, h1, hP⟩ := hW
        obtain ⟨rfl, hx⟩ := hY
        obtain ⟨t, ⟨z, c⟩, rfl, eg, et⟩ := (G1.same s2).get hx
        have mR := List.mem_of_getElem? eg
        have hzc : 0 < z ∧ 0 < c := R1.p _ mR
        have zl : z ≤ 2 ^ 150 + 1 := by
          refine lot_le (M := 2 ^ 150 + 1) (by decide) (cs := cs) (L := []) (fun x m => by have := (hc x m).2; omega) (fun y m => (List.not_mem_nil m).elim) z ?_
          show z ∈ seat cs
          rw [R1.e]
          exact List.mem_flatMap.mpr ⟨_, mR, List.mem_replicate.mpr ⟨by show c.toNat ≠ 0; omega, rfl⟩⟩
        refine ⟨t, _, rfl, SqT.of et, rfl, .int z, _, rfl, .int c, _, rfl, rfl, ?_⟩
        refine ⟨.int c, rfl, .int left, rfl, _, _, rfl, ?_⟩
        have hk : (if left < c then left else c) = min c left := by split <;> omega
        rw [hk]
        dsimp only [gName]
        have hk0 : 0 ≤ min c left ∧ min c left ≤ left := by omega
        have hrun : inF (ex (R.drop i)) left = min c left * z + inF (ex (R.drop (i + 1))) (left - min c left) := by
          obtain ⟨hi', ei'⟩ := List.getElem?_eq_some_iff.mp eg
          rw [List.drop_eq_getElem_cons hi', ei', ex_cons]
          exact inF_run z c (ex (R.drop (i + 1))) left (by omega) h0
        generalize min c left = k at hk0 hrun ⊢
        have a1 : k.natAbs.log2 ≤ 200 := by
          by_cases hk : k = 0
          · rw [hk]
            decide
          · exact Nat.le_of_lt ((Nat.log2_lt (by omega)).mpr (by omega))
        have a2 : z.natAbs.log2 ≤ 200 := Nat.le_of_lt ((Nat.log2_lt (by omega)).mpr (by omega))
        refine ⟨.int told, rfl, .int k, rfl, .int z, rfl, k, z, rfl, rfl, (by show k.natAbs.log2 + z.natAbs.log2 < 1000000; omega), told, k * z, rfl, rfl, ?_⟩
        refine ⟨.int left, rfl, .int k, rfl, left, k, rfl, rfl, ?_⟩
        exact ⟨told + k * z, left - k, _, _, _, rfl, s2, by omega, by omega, by rw [hP, hrun, Int.add_assoc]⟩
      · obtain ⟨told, left, y5, y6, y7, rfl, s2, h0, h1, hP⟩ := hW
        have lu : (us.map V.ref).length = R.length := by rw [List.length_map, G1.len]
        rw [lu, List.drop_length, ex_nil, inF_nil, Int.add_zero, ← R1.e] at hP
        exact hX _ _ ⟨_, _, _, _, by rw [hP], s1.trans s2⟩
    · obtain ⟨y4, y5, y6, y7, rfl, s2⟩ := hE
      exact ⟨_, rfl, q H2 s2⟩
end
end El
namespace El
/-! ### into which room the so-manieth of a crowd goes -/
/-- the first room in which no more live than are borne -/
def fr (p : Int) : List Int → Int
  | [] => 0
  | s :: L => if s ≤ p then 0 else fr p L + 1
def rnE (p : Int) : Int → List Int → Int
  | n, [] => (n - 1) / plc 0 p
  | n, s :: L => if n ≤ plc s p then 0 else rnE p (n - plc s p) L + 1
theorem sitN_cons {p : Int} : ∀ {n : Nat} {s : Int} {L : List Int}, sitN p n (s :: L) = (s + min (n : Int) (plc s p)) :: sitN p (n - (min (n : Int) (plc s p)).toNat) L
  | 0, s, L => by
    have := plc_nn s p
    rw [show min ((0 : Nat) : Int) (plc s p) = 0 by omega, Int.add_zero]
    rfl
  | n + 1, s, L => by
    show sitN p n (sit p (s :: L)) = _
    unfold sit
    by_cases h : s ≤ p
    · rw [if_pos h, sitN_cons]
      have e1 : plc s p = p + 1 - s := by
        unfold plc
        omega
      have e2 : plc (s + 1) p = p - s := by
        unfold plc
        omega
      rw [e1, e2, show s + 1 + min (n : Int) (p - s) = s + min ((n + 1 : Nat) : Int) (p + 1 - s) by omega, show n - (min (n : Int) (p - s)).toNat = n + 1 - (min ((n + 1 : Nat) : Int) (p + 1 - s)).toNat by omega]
    · rw [if_neg h, sitN_cons]
      have e1 : plc s p = 0 := by
        unfold plc
        omega
      rw [e1, show min (n : Int) 0 = 0 by omega, show min ((n + 1 : Nat) : Int) 0 = 0 by omega]
      rfl
theorem fr_none {p : Int} (hp : 0 ≤ p) : ∀ (n k : Nat), n ≤ k → fr p (sitN p n []) = (n : Int) / (p + 1)
  | 0, _, _ => by
    rw [show ((0 : Nat) : Int) = 0 from rfl, Int.zero_ediv]
    rfl
  | n + 1, 0, h => absurd h (Nat.not_succ_le_zero _)
  | n + 1, k + 1, h => by
    show fr p (sitN p n [1]) = _
    rw [sitN_cons]
    have e1 : plc 1 p = p := by
      unfold plc
      omega
    rw [e1]
    by_cases c : (n : Int) < p
    · rw [show min (n : Int) p = n by omega]
      unfold fr
      rw [if_pos (by omega), Int.ediv_eq_zero_of_lt (by omega) (by omega)]
    · rw [show min (n : Int) p = p by omega]
      unfold fr
      rw [if_neg (by omega), fr_none hp (n - p.toNat) k (by omega)]
      rw [show ((n - p.toNat : Nat) : Int) = (n : Int) - p by omega]
      have : ((n + 1 : Nat) : Int) = ((n : Int) - p) + (p + 1) := by omega
      rw [this, Int.add_ediv_of_dvd_right (Int.dvd_refl _), Int.ediv_self (by omega)]
theorem rnE_fr {p : Int} (hp : 0 ≤ p) : ∀ {L : List Int} {n : Int}, 1 ≤ n → rnE p n L = fr p (sitN p (n - 1).toNat L)
  | [], n, h => by
    rw [fr_none hp _ _ (Nat.le_refl _)]
    unfold rnE plc
    rw [show max 0 (p + 1 - 0) = p + 1 by omega, show (((n - 1).toNat : Nat) : Int) = n - 1 by omega]
  | s :: L, n, h => by
    have hb := plc_nn s p
    rw [sitN_cons]
    unfold rnE fr
    by_cases c : n ≤ plc s p
    · have e1 : plc s p = p + 1 - s := by
        unfold plc at c ⊢
        omega
      rw [if_pos c, if_pos (by omega)]
    · have e1 : p < s + plc s p := by
        unfold plc
        omega
      rw [if_neg c, if_neg (by omega), rnE_fr hp (by omega)]
      rw [show (n - plc s p - 1).toNat = (n - 1).toNat - (min (((n - 1).toNat : Nat) : Int) (plc s p)).toNat by omega]
theorem rnE_run {p z : Int} : ∀ {c : Nat} {n : Int} {X : List Int}, 1 ≤ n → rnE p n (List.replicate c z ++ X) = if n ≤ c * plc z p then (n - 1) / plc z p else rnE p (n - c * plc z p) X + c
  | 0, n, X, h => by
    rw [show ((0 : Nat) : Int) * plc z p = 0 by simp, if_neg (by omega), show n - 0 = n by omega]
    show rnE p n X = rnE p n X + 0
    omega
  | c + 1, n, X, h => by
    have hb := plc_nn z p
    have hcb : 0 ≤ (c : Int) * plc z p := Int.mul_nonneg (by omega) hb
    have hs : ((c + 1 : Nat) : Int) * plc z p = c * plc z p + plc z p := by
      rw [show ((c + 1 : Nat) : Int) = (c : Int) + 1 from rfl, Int.add_mul, Int.one_mul]
    rw [List.replicate_succ, List.cons_append, hs]
    show (if n ≤ plc z p then 0 else rnE p (n - plc z p) (List.replicate c z ++ X) + 1) = _
    by_cases c1 : n ≤ plc z p
    · rw [if_pos c1, if_pos (by omega), Int.ediv_eq_zero_of_lt (by omega) (by omega)]
    · rw [if_neg c1, rnE_run (by omega)]
      by_cases c2 : n - plc z p ≤ c * plc z p
      · have b0 : plc z p ≠ 0 := fun e => by
          rw [e, Int.mul_zero] at c2
          omega
        rw [if_pos c2, if_pos (by omega), show n - 1 = (n - plc z p - 1) + plc z p by omega, Int.add_ediv_of_dvd_right (Int.dvd_refl _), Int.ediv_self b0]
      · rw [if_neg c2, if_neg (by omega), show n - (c * plc z p + plc z p) = n - plc z p - c * plc z p by omega]
        omega
end El
namespace El
open PySem PySem.Spec PyProof.Rows L2
section
variable {P : Program} {w : World} {K : PySem.W.Frag} {mg : Str → Option Value} {base : Heap}
abbrev s_room_of_nth : Stmt := topS 15
abbrev N_room_of_nth : List Str := ["filled", "patience", "nth", "number", "left", "size", "many", "borne"]
abbrev P_room_of_nth : List Str := ["filled", "patience", "nth"]
theorem sc_room_of_nth : FnScope N_room_of_nth P_room_of_nth (defScope s_room_of_nth) := ⟨rfl, rfl, rfl, by decide +kernel, rfl, by decide +kernel, by decide +kernel⟩
theorem log_few {x : Int} (h0 : 0 ≤ x) (h : x < 2 ^ 191) : x.natAbs.log2 ≤ 200 := by
  by_cases hk : x = 0
  · rw [hk]
    decide
  · exact Nat.le_of_lt ((Nat.log2_lt (by omega)).mpr (by omega))
def sp_room_of_nth : Sp := fun vs H Q _ => ∃ (B : Addr → Prop) (a : Addr) (ts : List Addr) (R : List (Int × Int)) (L : List Int) (p n : Int), vs = [.ref a, .int p, .int n] ∧ GsAt H B a ts R ∧ Rle R L ∧ 0 ≤ p ∧ p < 2 ^ 190 ∧ 1 ≤ n ∧ (∀ r ∈ R, r.2 < 2 ^ 190) ∧ Q (.int (rnE p n L)) H
theorem ok_room_of_nth (A : At K mg "room_of_nth" P_room_of_nth s_room_of_nth) (B : Bi mg) (D_places : Df P w K mg base 1 "places" P_places s_places sp_places) : Df P w K mg base 2 "room_of_nth" P_room_of_nth s_room_of_nth sp_room_of_nth := by
  refine A.df fun f fd F => F.ok sc_room_of_nth (fun vs H Q E h => ?_) (fun cdv AA outer s H vs Q E hr h => ?_)
  · obtain ⟨_, _, _, _, _, _, _, rfl, _⟩ := h
    rfl
  · obtain ⟨BB, a, ts, R, L, p, n, rfl, hG, hR, hp, hp2, hn, lR, q⟩ := h
    have nd := sc_room_of_nth.nd
    refine ⟨_, (pss_cons (ps_set (i := 3) nd rfl (.inl rfl) pe_int)
    (pss_cons (ps_set (i := 4) nd rfl (.inl rfl) (pv 2))
    (pss_cons (ps_for PassesOwn.never rfl (pi_list (pv 0)) (pg_tup (by rfl) (pgs_cons (pg_name (i := 5) nd rfl (.inl rfl)) (pgs_cons (pg_name (i := 6) nd rfl (.inl rfl)) pgs_nil))) (pss_cons (ps_set (i := 7) nd rfl (.inl rfl) (pe_df D_places (hr.mono (by decide)) (by rfl) (pa_cons (pv 5) (pa_cons (pv 1) pa_nil)))) (pss_cons (ps_if (pt_cmpR op_le (pv 4) (pe_op op_mulW (pv 6) (pv 7)) (nomark _)) (pss_one (ps_ret (pe_op op_add (pv 3) (pe_op op_fdivW (pe_op op_sub (pv 4) pe_int) (pv 7))))) pss_nil) (pss_cons (ps_aug (i := 4) nd rfl (.inl rfl) (pe_op op_mulW (pv 6) (pv 7)) ip_sub) (pss_one (ps_aug (i := 3) nd rfl (.inl rfl) (pv 6) ip_add))))))
    (pss_one (ps_ret (pe_op op_add (pv 3) (pe_op op_fdivW (pe_op op_sub (pv 4) pe_int) (pe_df D_places (hr.mono (by decide)) (by rfl) (pa_cons pe_int (pa_cons (pv 1) pa_nil)))))))))), ?_⟩
    refine ⟨.int n, rfl, ?_⟩
    dsimp only [gName]
    refine seq_to (fun σ H2 => ∃ num left y5 y6 y7, σ = [some (.ref a), some (.int p), some (.int n), some (.int num), some (.int left), y5, y6, y7] ∧ H2 = H ∧ 1 ≤ left ∧ rnE p n L = num + rnE p left []) (fun X hX => ?_) (fun σ H2 hE => ?_)
    · refine ⟨.ref a, rfl, a, rfl, ⟨_, hG.seq⟩, ?_⟩
      refine for_it (walk_list (xs := ts.map V.ref)) (fun i σ H2 => ∃ num left y5 y6 y7, σ = [some (.ref a), some (.int p), some (.int n), some (.int num), some (.int left), y5, y6, y7] ∧ H2 = H ∧ 1 ≤ left ∧ rnE p n L = num + rnE p left (ex (R.drop i)))
        ⟨0, n, _, _, _, rfl, rfl, hn, by rw [Int.zero_add, List.drop_zero, hR.e]⟩ (fun i σ H2 _ hW => ?_) (fun i v σ H2 H3 hi hW hY => ?_) (fun σ H2 hW => ?_)
      · obtain ⟨_, _, _, _, _, _, e, _⟩ := hW
        rw [e]
        exact hG.seq
      · obtain ⟨num, left, y5, y6, y7, rfl, rfl, h1, hP⟩ := hW
        obtain ⟨rfl, hx⟩ := hY
        obtain ⟨t, ⟨z, c⟩, rfl, eg, et⟩ := hG.get hx
        have mR := List.mem_of_getElem? eg
        have hzc : 0 < z ∧ 0 < c := hR.p _ mR
        have c1 : c < 2 ^ 190 := lR _ mR
        have pl0 := plc_nn z p
        have pl1 : plc z p < 2 ^ 191 := by
          unfold plc
          omega
        have hmul : c.natAbs.log2 + (plc z p).natAbs.log2 < 1000000 := by
          have a1 := log_few (x := c) (by omega) (by omega)
          have a2 := log_few pl0 pl1
          omega
        have hrun : rnE p left (ex (R.drop i)) = if left ≤ c * plc z p then (left - 1) / plc z p else rnE p (left - c * plc z p) (ex (R.drop (i + 1))) + c := by
          obtain ⟨hi', ei'⟩ := List.getElem?_eq_some_iff.mp eg
          rw [List.drop_eq_getElem_cons hi', ei', ex_cons]
          have := rnE_run (p := p) (z := z) (c := c.toNat) (n := left) (X := ex (R.drop (i + 1))) h1
          rw [show ((c.toNat : Nat) : Int) = c by omega] at this
          exact this
        refine ⟨t, _, rfl, SqT.of et, rfl, .int z, _, rfl, .int c, _, rfl, rfl, ?_⟩
        refine ⟨.int z, rfl, .int p, rfl, z, p, rfl, ?_⟩
        dsimp only [gName]
        refine ⟨.int left, rfl, .int c, rfl, .int (plc z p), rfl, _, _, rfl, rfl, hmul, _, _, rfl, rfl, _, rfl, ?_⟩
        by_cases hle : left ≤ c * plc z p
        · rw [if_pos hle] at hrun
          have hb : 0 < plc z p := by
            rcases Int.lt_or_eq_of_le pl0 with h | h
            · exact h
            · rw [← h, Int.mul_zero] at hle
              omega
          refine ifYes (decide_eq_true hle) ?_
          refine ⟨.int num, rfl, .int left, rfl, _, _, rfl, rfl, .int (plc z p), rfl, _, _, rfl, rfl, ⟨hb, Nat.lt_of_le_of_lt (log_few pl0 pl1) (by decide)⟩, _, _, rfl, rfl, ?_⟩
          rw [hP, hrun] at q
          exact q
        · rw [if_neg hle] at hrun
          refine ifNo (decide_eq_false hle) ?_
          refine ⟨.int left, rfl, .int c, rfl, .int (plc z p), rfl, _, _, rfl, rfl, hmul, _, _, rfl, rfl, ?_⟩
          refine ⟨.int num, rfl, .int c, rfl, _, _, rfl, rfl, ?_⟩
          exact ⟨num + c, left - c * plc z p, _, _, _, rfl, rfl, by omega, by rw [hP, hrun]; omega⟩
      · obtain ⟨num, left, y5, y6, y7, rfl, rfl, h1, hP⟩ := hW
        have lu : (ts.map V.ref).length = R.length := by rw [List.length_map, hG.len]
        rw [lu, List.drop_length, ex_nil] at hP
        exact hX _ _ ⟨num, left, _, _, _, rfl, rfl, h1, hP⟩
    · obtain ⟨num, left, y5, y6, y7, rfl, rfl, h1, hP⟩ := hE
      have hb : plc 0 p = p + 1 := by
        unfold plc
        omega
      refine ⟨.int num, rfl, .int left, rfl, _, _, rfl, rfl, .int p, rfl, 0, p, rfl, _, _, rfl, rfl, ⟨by omega, Nat.lt_of_le_of_lt (log_few (plc_nn 0 p) (by omega)) (by decide)⟩, _, _, rfl, rfl, ?_⟩
      rw [hP] at q
      exact q
end
end El
namespace El
open PySem PySem.Spec PyProof.Rows L2
section
variable {P : Program} {w : World} {K : PySem.W.Frag} {mg : Str → Option Value} {base : Heap}
abbrev s_room_of : Stmt := topS 14
abbrev N_room_of : List Str := ["crowds", "m", "filled", "nth", "count", "patience"]
abbrev P_room_of : List Str := ["crowds", "m"]
theorem sc_room_of : FnScope N_room_of P_room_of (defScope s_room_of) := ⟨rfl, rfl, rfl, by decide +kernel, rfl, by decide +kernel, by decide +kernel⟩
/-- the room of the m-th of these crowds, who come into rooms of such sizes -/
def rmOf : List Int → List (Int × Int) → Int → Int
  | _, [], _ => 0
  | L, c :: cs, m => if m ≤ c.1 then rnE c.2 m L else rmOf (sitN c.2 c.1.toNat L) cs (m - c.1)
def allOf (cs : List (Int × Int)) : Int := (cs.map (·.1)).sum
def sp_room_of : Sp := fun vs H Q _ => ∃ (B : Addr → Prop) (a : Addr) (ts : List Addr) (cs : List (Int × Int)) (m : Int), vs = [.ref a, .int m] ∧ GsAt H B a ts cs ∧ Crw cs ∧ (∀ c ∈ cs, c.1 < 2 ^ 150 ∧ c.2 < 2 ^ 150) ∧ cs.length ≤ 100 ∧ 1 ≤ m ∧ m ≤ allOf cs ∧
  ∀ H', Same H H' → Q (.int (rmOf [] cs m)) H'
theorem ok_room_of (A : At K mg "room_of" P_room_of s_room_of) (B : Bi mg) (D_check_crowds : Df P w K mg base 2 "check_crowds" P_check_crowds s_check_crowds sp_check_crowds) (D_after_crowd : Df P w K mg base 3 "after_crowd" P_after_crowd s_after_crowd sp_after_crowd) (D_room_of_nth : Df P w K mg base 2 "room_of_nth" P_room_of_nth s_room_of_nth sp_room_of_nth) : Df P w K mg base 4 "room_of" P_room_of s_room_of sp_room_of := by
  refine A.df fun f fd F => F.ok sc_room_of (fun vs H Q E h => ?_) (fun cdv AA outer s H vs Q E hr h => ?_)
  · obtain ⟨_, _, _, _, _, rfl, _⟩ := h
    rfl
  · obtain ⟨BB, a, ts, cs, m, rfl, hG, hC, hc, hl, hm, hma, q⟩ := h
    have nd := sc_room_of.nd
    refine ⟨_, (pss_cons (ps_expr (pe_df D_check_crowds (hr.mono (by decide)) (by rfl) (pa_cons (pv 0) pa_nil)))
    (pss_cons (ps_if (pt_cmpR op_lt (pv 1) pe_int (nomark _)) (pss_one ps_never) pss_nil)
    (pss_cons (ps_set (i := 2) nd rfl (.inl rfl) (pe_lst pa_nil))
    (pss_cons (ps_set (i := 3) nd rfl (.inl rfl) (pv 1))
    (pss_cons (ps_for PassesOwn.never rfl (pi_list (pv 0)) (pg_tup (by rfl) (pgs_cons (pg_name (i := 4) nd rfl (.inl rfl)) (pgs_cons (pg_name (i := 5) nd rfl (.inl rfl)) pgs_nil))) (pss_cons (ps_if (pt_cmpR op_le (pv 3) (pv 4) (nomark _)) (pss_one (ps_ret (pe_df D_room_of_nth (hr.mono (by decide)) (by rfl) (pa_cons (pv 2) (pa_cons (pv 5) (pa_cons (pv 3) pa_nil)))))) pss_nil) (pss_cons (ps_set (i := 2) nd rfl (.inl rfl) (pe_df D_after_crowd (hr.mono (by decide)) (by rfl) (pa_cons (pv 2) (pa_cons (pv 4) (pa_cons (pv 5) pa_nil))))) (pss_one (ps_aug (i := 3) nd rfl (.inl rfl) (pv 4) ip_sub)))))
    (pss_one ps_never)))))), ?_⟩
    refine ⟨.ref a, rfl, BB, a, ts, cs, rfl, hG, hC, fun H1 s1 => ?_⟩
    refine ⟨.int m, rfl, _, _, rfl, rfl, _, rfl, ifNo (decide_eq_false (by omega)) ?_⟩
    -- filled = []
    refine ⟨Nat.zero_le _, fun o no => ?_⟩
    dsimp only [gName]
    have s2 := s1.trans (same_new (o := .lst []) no)
    refine ⟨.int m, rfl, ?_⟩
    dsimp only [gName]
    refine seq_to (fun σ H2 => False) (fun X hX => ?_) (fun σ H2 hE => hE.elim)
    refine ⟨.ref a, rfl, a, rfl, ⟨_, (hG.same s2).seq⟩, ?_⟩
    refine for_it (walk_list (xs := ts.map V.ref)) (fun i σ H2 => ∃ o us R nth y4 y5, σ = [some (.ref a), some (.int m), some (.ref o), some (.int nth), y4, y5] ∧ Same H H2 ∧ GsAt H2 (fun b => H b = none) o us R ∧ Rle R (seat (cs.take i)) ∧ R.length ≤ 3 * i ∧ (seat (cs.take i)).length ≤ i * 2 ^ 150 ∧ 1 ≤ nth ∧ nth ≤ allOf (cs.drop i) ∧ rmOf [] cs m = rmOf (seat (cs.take i)) (cs.drop i) nth)
      ⟨o, [], [], m, _, _, rfl, s2, ⟨upd_same, s1.free no, rfl, fun i t g e _ => by simp at e, fun t m => (List.not_mem_nil m).elim⟩, ⟨rfl, .nil, fun r m => (List.not_mem_nil m).elim⟩, Nat.zero_le _, Nat.zero_le _, hm, hma, rfl⟩ (fun i σ H2 _ hW => ?_) (fun i v σ H2 H3 hi hW hY => ?_) (fun σ H2 hW => ?_)
    · obtain ⟨_, _, _, _, _, _, _, s3, _⟩ := hW
      exact (hG.same s3).seq
    · obtain ⟨o, us, R, nth, y4, y5, rfl, s3, Go, Ro, lR, lL, n1, n2, hP⟩ := hW
      obtain ⟨rfl, hx⟩ := hY
      obtain ⟨t, c, rfl, eg, et⟩ := (hG.same s3).get hx
      have hi' := at_lt eg
      have mc := List.mem_of_getElem? eg
      have c0 := hC c mc
      have c1 := hc c mc
      have hdr : cs.drop i = c :: cs.drop (i + 1) := by
        obtain ⟨h1, h2⟩ := List.getElem?_eq_some_iff.mp eg
        rw [List.drop_eq_getElem_cons h1, h2]
      rw [hdr] at hP n2
      have hall : allOf (c :: cs.drop (i + 1)) = c.1 + allOf (cs.drop (i + 1)) := rfl
      rw [hall] at n2
      have h1 : i * 2 ^ 150 ≤ 100 * 2 ^ 150 := Nat.mul_le_mul_right _ (by omega)
      have hr2 : ∀ r ∈ R, r.2 < 2 ^ 190 := fun r m => by
        have := ex_len m
        rw [← Ro.e] at this
        omega
      refine ⟨t, _, rfl, SqT.of et, rfl, .int c.1, _, rfl, .int c.2, _, rfl, rfl, ?_⟩
      refine ⟨.int nth, rfl, .int c.1, rfl, _, _, rfl, rfl, _, rfl, ?_⟩
      by_cases hle : nth ≤ c.1
      · refine ifYes (decide_eq_true hle) ?_
        have hv : rmOf [] cs m = rnE c.2 nth (seat (cs.take i)) := by
          rw [hP]
          unfold rmOf
          rw [if_pos hle]
        refine ⟨.ref o, rfl, .int c.2, rfl, .int nth, rfl, _, o, us, R, _, c.2, nth, rfl, Go, Ro, c0.2, by omega, n1, hr2, ?_⟩
        rw [← hv]
        exact q _ s3
      · refine ifNo (decide_eq_false hle) ?_
        refine ⟨.ref o, rfl, .int c.1, rfl, .int c.2, rfl, _, o, us, R, seat (cs.take i), c.1, c.2, rfl, Go, Ro, by omega, by omega, by omega, by omega, hr2, by omega, fun H4 q4 us4 R4 s4 G4 Rl4 l4 => ?_⟩
        dsimp only [gName]
        refine ⟨.int nth, rfl, .int c.1, rfl, _, _, rfl, rfl, ?_⟩
        refine ⟨q4, us4, R4, nth - c.1, _, _, rfl, s3.trans s4, G4.weaken fun b e => s3.free e, ?_, by omega, ?_, by omega, by omega, ?_⟩
        · rw [take_snoc eg, seat_snoc]
          exact Rl4
        · rw [take_snoc eg, seat_snoc]
          have := sitN_len c.2 c.1.toNat (seat (cs.take i))
          have h2 : (i + 1) * 2 ^ 150 = i * 2 ^ 150 + 2 ^ 150 := by rw [Nat.add_mul, Nat.one_mul]
          omega
        · rw [take_snoc eg, seat_snoc, hP]
          show (if nth ≤ c.1 then _ else _) = _
          rw [if_neg hle]
    · obtain ⟨o, us, R, nth, y4, y5, rfl, s3, Go, Ro, lR, lL, n1, n2, hP⟩ := hW
      rw [List.length_map, hG.len, List.drop_length] at n2
      have : allOf ([] : List (Int × Int)) = 0 := rfl
      omega
end
end El
namespace El
open PySem PySem.Spec PyProof.Rows L2
/-! ### guests written out crowd by crowd -/
theorem lens_place (a p : Int) : ∀ rs : List (List Int), lens (place rs a p) = sit p (lens rs)
  | [] => rfl
  | r :: rs => by
    unfold place
    show _ = sit p ((r.length : Int) :: lens rs)
    unfold sit
    by_cases h : (r.length : Int) ≤ p
    · rw [if_pos h, if_pos h]
      show ((r ++ [a]).length : Int) :: lens rs = _
      rw [List.length_append]
      rfl
    · rw [if_neg h, if_neg h]
      show (r.length : Int) :: lens (place rs a p) = _
      rw [lens_place a p rs]
theorem lens_fold : ∀ (L : List (Int × Int)) (rs : List (List Int)), lens (L.foldl (fun rs g => place rs g.1 g.2) rs) = (L.map (·.2)).foldl (fun M p => sit p M) (lens rs)
  | [], _ => rfl
  | g :: L, rs => by
    show lens (L.foldl _ (place rs g.1 g.2)) = (L.map (·.2)).foldl _ (sit g.2 (lens rs))
    rw [lens_fold L, lens_place]
/-- the eldest with the greatest years -/
def wrG : List Int → List (Int × Int)
  | [] => []
  | p :: ps => ((ps.length : Int) + 1, p) :: wrG ps
theorem wrG_snd : ∀ ps : List Int, (wrG ps).map (·.2) = ps
  | [] => rfl
  | p :: ps => congrArg (p :: ·) (wrG_snd ps)
theorem wrG_len (ps : List Int) : (wrG ps).length = ps.length := by rw [← List.length_map (f := fun g : Int × Int => g.2), wrG_snd]
theorem wrG_le : ∀ {ps : List Int} {g : Int × Int}, g ∈ wrG ps → g.1 ≤ ps.length
  | p :: ps, g, m => by
    rcases List.mem_cons.mp m with e | m
    · rw [e]
      exact Int.le_refl _
    · have := wrG_le m
      show g.1 ≤ ((ps.length + 1 : Nat) : Int)
      omega
theorem wrG_falls : ∀ ps : List Int, (wrG ps).Pairwise fun g h => h.1 < g.1
  | [] => .nil
  | p :: ps => List.pairwise_cons.mpr ⟨fun g m => by
    have := wrG_le m
    show g.1 < (ps.length : Int) + 1
    omega, wrG_falls ps⟩
theorem wrG_at : ∀ {ps : List Int} {k : Nat} {p : Int}, ps[k]? = some p → (wrG ps)[k]? = some ((ps.length : Int) - k, p)
  | x :: ps, 0, p, h => by
    obtain rfl := Option.some.inj h
    show some ((ps.length : Int) + 1, x) = some (((ps.length + 1 : Nat) : Int) - ((0 : Nat) : Int), x)
    congr 2
  | x :: ps, k + 1, p, h => by
    have := wrG_at (ps := ps) (k := k) h
    show (wrG ps)[k]? = some (((ps.length + 1 : Nat) : Int) - ((k + 1 : Nat) : Int), p)
    rw [this]
    congr 2
    omega
theorem wrG_fit {ps : List Int} (h : ∀ p ∈ ps, 0 ≤ p) : Fit (wrG ps) := by
  refine ⟨?_, fun g m => h _ ?_⟩
  · rw [List.Nodup, List.pairwise_map]
    exact (wrG_falls ps).imp fun h => by omega
  · have := List.mem_map_of_mem (f := fun g : Int × Int => g.2) m
    rw [wrG_snd] at this
    exact this
theorem wrG_lens {ps : List Int} (h : ∀ p ∈ ps, 0 ≤ p) : lens (settle (wrG ps)) = ps.foldl (fun M p => sit p M) [] := by
  have e : wrG ps = byAge (wrG ps) := byAge_of (wrG_fit h) (.refl _) ((wrG_falls ps).imp fun h => by omega)
  show lens (settleL (byAge (wrG ps))) = _
  rw [← e]
  have := lens_fold (wrG ps) []
  rw [wrG_snd] at this
  exact this
theorem fold_rep (p : Int) : ∀ (n : Nat) (L : List Int), (List.replicate n p).foldl (fun M p => sit p M) L = sitN p n L
  | 0, _ => rfl
  | n + 1, L => by
    rw [List.replicate_succ]
    exact fold_rep p n (sit p L)
def lotP (cs : List (Int × Int)) : List Int := cs.flatMap fun c => List.replicate c.1.toNat c.2
theorem fold_lot : ∀ (cs : List (Int × Int)) (L : List Int), (lotP cs).foldl (fun M p => sit p M) L = cs.foldl (fun L c => sitN c.2 c.1.toNat L) L
  | [], _ => rfl
  | c :: cs, L => by
    show ((List.replicate c.1.toNat c.2 ++ lotP cs)).foldl _ L = cs.foldl _ (sitN c.2 c.1.toNat L)
    rw [List.foldl_append, fold_rep, fold_lot cs]
/-- how many live in the first room -/
def hd (L : List Int) : Int := (L ++ [0]).headD 0
theorem hd_sit {p : Int} (hp : 0 ≤ p) : ∀ L : List Int, hd (sit p L) = if hd L ≤ p then hd L + 1 else hd L
  | [] => by
    show (1 : Int) = if (0 : Int) ≤ p then 0 + 1 else 0
    rw [if_pos hp]
    rfl
  | s :: L => by
    unfold sit
    show _ = if s ≤ p then s + 1 else s
    by_cases h : s ≤ p
    · rw [if_pos h, if_pos h]
      rfl
    · rw [if_neg h, if_neg h]
      rfl
theorem hd_sitN {p : Int} (hp : 0 ≤ p) : ∀ (n : Nat) (L : List Int), hd (sitN p n L) = kst (hd L) (n, p)
  | 0, L => by
    show hd L = kst (hd L) (0, p)
    unfold kst
    show hd L = if p + 1 ≤ hd L then hd L else if hd L + 0 ≤ p + 1 then hd L + 0 else p + 1
    split
    · rfl
    · rw [if_pos (by omega), Int.add_zero]
  | n + 1, L => by
    show hd (sitN p n (sit p L)) = _
    rw [hd_sitN hp n, hd_sit hp]
    unfold kst
    show (if p + 1 ≤ (if hd L ≤ p then hd L + 1 else hd L) then (if hd L ≤ p then hd L + 1 else hd L) else if (if hd L ≤ p then hd L + 1 else hd L) + (n : Int) ≤ p + 1 then (if hd L ≤ p then hd L + 1 else hd L) + (n : Int) else p + 1) = if p + 1 ≤ hd L then hd L else if hd L + ((n + 1 : Nat) : Int) ≤ p + 1 then hd L + ((n + 1 : Nat) : Int) else p + 1
    repeat' split
    all_goals omega
theorem hd_lot : ∀ {cs : List (Int × Int)}, Crw cs → ∀ L : List Int, hd (cs.foldl (fun L c => sitN c.2 c.1.toNat L) L) = stay cs (hd L)
  | [], _, _ => rfl
  | c :: cs, h, L => by
    have hc := h c List.mem_cons_self
    show hd (cs.foldl _ (sitN c.2 c.1.toNat L)) = stay cs (kst (hd L) c)
    rw [hd_lot (fun x m => h x (List.mem_cons_of_mem _ m)), hd_sitN hc.2, show ((c.1.toNat : Nat) : Int) = c.1 by omega]
/-- a list of sizes is told in one way -/
theorem Rle.one {R S : List (Int × Int)} {L : List Int} (h : Rle R L) (k : Rle S L) : R = S := by
  have fit : ∀ {R : List (Int × Int)}, Rle R L → Fit R := fun h => ⟨by
    rw [List.Nodup, List.pairwise_map]
    exact h.d.imp fun h => by omega, fun r m => Int.le_of_lt (h.p r m).2⟩
  have val : ∀ {R : List (Int × Int)}, Rle R L → ∀ r ∈ R, r.2 = ((L.count r.1 : Nat) : Int) := fun {R} h r m => by
    have := cnt_pof (fit h).nd (fit h).pos r.1
    rw [pof_is (fit h).nd m] at this
    rw [h.e]
    exact this.symm
  have sub : ∀ {R S : List (Int × Int)}, Rle R L → Rle S L → ∀ r ∈ R, r ∈ S := fun {R S} h k r m => by
    have v := val h r m
    have p := (h.p r m).2
    have : r.1 ∈ L := List.count_pos_iff.mp (by omega)
    rw [k.e] at this
    obtain ⟨s, ms, es⟩ := ex_mem this
    have w := val k s ms
    have : s = r := Prod.ext es (by rw [w, v, es])
    exact this ▸ ms
  have nd : ∀ {R : List (Int × Int)}, Rle R L → R.Nodup := fun h => (h.d.imp fun {a b} h e => by rw [e] at h; omega)
  have pm : R.Perm S := (List.perm_ext_iff_of_nodup (nd h) (nd k)).mpr fun r => ⟨sub h k r, sub k h r⟩
  have e1 : R = byAge S := byAge_of (fit k) pm (h.d.imp fun h => by omega)
  have e2 : S = byAge S := byAge_of (fit k) (.refl _) (k.d.imp fun h => by omega)
  rw [e1, ← e2]
end El
namespace El
open PySem PySem.Spec PyProof.Rows L2
/-- the pot: what a great cell has more, a number to be mixed, how many were mixed -/
structure Pot (H : Hp) (b : Addr) (n : Nat) : Prop where
  ex : ∃ x y t : Int, H b = some (.lst [.int x, .int y, .int t]) ∧ 0 ≤ x ∧ 0 ≤ y ∧ y < 2 ^ 63 ∧ 0 ≤ t ∧ t ≤ n
theorem Pot.same {H H' : Hp} {b : Addr} {n : Nat} (h : Pot H b n) (k : Same H H') : Pot H' b n :=
  let ⟨x, y, t, e, r⟩ := h.ex
  ⟨x, y, t, k _ _ e, r⟩
theorem Pot.kept {H H' : Hp} {b : Addr} {n : Nat} {B : Addr → Prop} (h : Pot H b n) (k : Kp B H H') (hb : B b) : Pot H' b n :=
  let ⟨x, y, t, e, r⟩ := h.ex
  ⟨x, y, t, k _ _ hb e, r⟩
theorem Pot.more {H : Hp} {b : Addr} {n m : Nat} (h : Pot H b n) (k : n ≤ m) : Pot H b m :=
  let ⟨x, y, t, e, r1, r2, r3, r4, r5⟩ := h.ex
  ⟨x, y, t, e, r1, r2, r3, r4, by omega⟩
/-- ** of a greater base -/
def CPowB (i j : Int) : Prop := 0 ≤ j ∧ (Builtin.Int.intBits i : Int) * j ≤ 2 ^ 27
theorem op_powB {X : Cx} : OpR X (binaryOp .Pow) (rI CPowB fun i j => .int (i ^ j.toNat)) := opI fun _ _ _ _ _ _ _ hc q => pow_int hc.1 hc.2 q
theorem few_bits {a : Int} (h : a.natAbs < 2 ^ 200) : Builtin.Int.intBits a ≤ 201 := by
  unfold Builtin.Int.intBits
  split
  · omega
  · rename_i h0
    have := (Nat.log2_lt (show a.natAbs ≠ 0 from fun e => h0 (by simpa using e))).mpr h
    omega
section
variable {P : Program} {w : World} {K : PySem.W.Frag} {mg : Str → Option Value} {base : Heap}
abbrev s__law_draw : Stmt := topS 21
abbrev N__law_draw : List Str := ["pot", "many", "drawn", "mixed"]
abbrev P__law_draw : List Str := ["pot", "many"]
theorem sc__law_draw : FnScope N__law_draw P__law_draw (defScope s__law_draw) := ⟨rfl, rfl, rfl, by decide +kernel, rfl, by decide +kernel, by decide +kernel⟩
def sp__law_draw : Sp := fun vs H Q _ => ∃ (b : Addr) (n : Nat) (m : Int), vs = [.ref b, .int m] ∧ Pot H b n ∧ n ≤ 1000000000 ∧ 0 < m ∧ m < 2 ^ 200 ∧
  ∀ H' r, Kp (fun z => z ≠ b) H H' → Pot H' b (n + 1) → 0 ≤ r → r < m → Q (.int r) H'
theorem ok__law_draw (A : At K mg "_law_draw" P__law_draw s__law_draw) (B : Bi mg) : Df P w K mg base 1 "_law_draw" P__law_draw s__law_draw sp__law_draw := by
  refine A.df fun f fd F => F.ok sc__law_draw (fun vs H Q E h => ?_) (fun cdv AA outer s H vs Q E hr h => ?_)
  · obtain ⟨_, _, _, rfl, _⟩ := h
    rfl
  · obtain ⟨b, n, m, rfl, hT, hn, m0, m1, q⟩ := h
    have nd := sc__law_draw.nd
    refine ⟨_, (pss_cons (ps_if (pt_cmpR op_gt (pe_ix ix_list (pv 0) pe_int (fun _ _ => rfl)) pe_int (nomark _)) (pss_cons (ps_set (i := 2) nd rfl (.inl rfl) (pe_op op_mod (pe_ix ix_list (pv 0) pe_int (fun _ _ => rfl)) (pv 1))) (pss_cons (ps_asg (pe_op op_fdivW (pe_ix ix_list (pv 0) pe_int (fun _ _ => rfl)) (pv 1)) (pg_sub (pv 0) pe_int set_list)) (pss_one (ps_ret (pv 2))))) pss_nil)
    (pss_cons (ps_asg (pe_op op_add (pe_ix ix_list (pv 0) pe_int (fun _ _ => rfl)) pe_int) (pg_sub (pv 0) pe_int set_list))
    (pss_cons (ps_set (i := 3) nd rfl (.inl rfl) (pe_op op_mod (pe_op op_powB (pe_op op_add (pe_ix ix_list (pv 0) pe_int (fun _ _ => rfl)) (pe_op op_mul pe_int (pe_ix ix_list (pv 0) pe_int (fun _ _ => rfl)))) pe_int) pe_int))
    (pss_cons (ps_set (i := 3) nd rfl (.inl rfl) (pe_op op_mod (pe_op op_powB (pe_op op_add (pv 3) (pe_op op_mul pe_int (pe_ix ix_list (pv 0) pe_int (fun _ _ => rfl)))) pe_int) pe_int))
    (pss_one (ps_ret (pe_op op_mod (pe_op op_fdivW (pv 3) pe_int) (pv 1)))))))), ?_⟩
    obtain ⟨x, y, t, j1, x0, y0, y1, t0, t1⟩ := hT.ex
    refine ⟨.ref b, rfl, b, _, 0, .int x, rfl, rfl, SqL.of j1, atI_nat (j := 0) rfl, _, _, rfl, rfl, _, rfl, ite2 (fun ea => ?_) (fun ea => ?_)⟩
    · have g1 : CDivW x m := ⟨m0, Nat.lt_trans (log_lt m0 m1) (by decide)⟩
      refine ⟨.ref b, rfl, b, _, 0, .int x, rfl, rfl, SqL.of j1, atI_nat (j := 0) rfl, .int m, rfl, _, _, rfl, rfl, m0, ?_⟩
      refine ⟨.ref b, rfl, b, _, 0, .int x, rfl, rfl, SqL.of j1, atI_nat (j := 0) rfl, .int m, rfl, _, _, rfl, rfl, g1, .ref b, rfl, b, _, 0, 0, rfl, rfl, j1, rfl, _, rfl, ?_⟩
      exact q _ _ (Kp.mut Kp.refl fun z => z rfl) ⟨x / m, y, t, upd_same, Int.ediv_nonneg x0 (by omega), y0, y1, t0, by omega⟩ (Int.emod_nonneg _ (by omega)) (Int.emod_lt_of_pos _ m0)
    · refine ⟨.ref b, rfl, b, _, 2, .int t, rfl, rfl, SqL.of j1, atI_nat (j := 2) rfl, _, _, rfl, rfl, .ref b, rfl, b, _, 2, 2, rfl, rfl, j1, rfl, ?_⟩
      have e1 : upd H b (.lst [.int x, .int y, .int (t + 1)]) b = some (.lst [.int x, .int y, .int (t + 1)]) := upd_same
      have k1 : Kp (fun z => z ≠ b) H (upd H b (.lst [.int x, .int y, .int (t + 1)])) := Kp.mut Kp.refl fun z => z rfl
      have T1 : Pot (upd H b (.lst [.int x, .int y, .int (t + 1)])) b (n + 1) := ⟨x, y, t + 1, e1, x0, y0, y1, by omega, by omega⟩
      show tSeq _ _ _ _ (upd H b (.lst [.int x, .int y, .int (t + 1)]))
      revert e1 k1 T1
      generalize upd H b (.lst [.int x, .int y, .int (t + 1)]) = H1
      intro e1 k1 T1
      refine ⟨.ref b, rfl, b, _, 1, .int y, rfl, rfl, SqL.of e1, atI_nat (j := 1) rfl, .ref b, rfl, b, _, 2, .int (t + 1), rfl, rfl, SqL.of e1, atI_nat (j := 2) rfl, _, _, rfl, rfl, .inl (by decide), _, _, rfl, rfl, ?_⟩
      refine ⟨_, _, rfl, rfl, ⟨by decide, ?_⟩, _, _, rfl, rfl, (by show (0 : Int) < 162259276829213363391578010288127; decide), ?_⟩
      · have hb : (y + 15485863 * (t + 1)).natAbs < 2 ^ 200 := by omega
        have := few_bits hb
        show (Builtin.Int.intBits (y + 15485863 * (t + 1)) : Int) * 3 ≤ 2 ^ 27
        omega
      have hx : 0 ≤ (y + 15485863 * (t + 1)) ^ (3 : Int).toNat % 162259276829213363391578010288127 ∧ (y + 15485863 * (t + 1)) ^ (3 : Int).toNat % 162259276829213363391578010288127 < 162259276829213363391578010288127 := ⟨Int.emod_nonneg _ (by decide), Int.emod_lt_of_pos _ (by decide)⟩
      dsimp only [gName]
      revert hx
      generalize (y + 15485863 * (t + 1)) ^ (3 : Int).toNat % 162259276829213363391578010288127 = X
      intro hx
      refine ⟨.int X, rfl, .ref b, rfl, b, _, 2, .int (t + 1), rfl, rfl, SqL.of e1, atI_nat (j := 2) rfl, _, _, rfl, rfl, .inl (by decide), _, _, rfl, rfl, _, _, rfl, rfl, ⟨by decide, ?_⟩, _, _, rfl, rfl, (by show (0 : Int) < 170141183460469231731687303715884105727; decide), ?_⟩
      · have hb : (X + 32452843 * (t + 1)).natAbs < 2 ^ 200 := by omega
        have := few_bits hb
        show (Builtin.Int.intBits (X + 32452843 * (t + 1)) : Int) * 5 ≤ 2 ^ 27
        omega
      dsimp only [gName]
      generalize (X + 32452843 * (t + 1)) ^ (5 : Int).toNat % 170141183460469231731687303715884105727 = Y
      refine ⟨.int Y, rfl, _, _, rfl, rfl, ⟨by decide, by decide⟩, .int m, rfl, _, _, rfl, rfl, m0, ?_⟩
      exact q _ _ k1 T1 (Int.emod_nonneg _ (by omega)) (Int.emod_lt_of_pos _ m0)
end
end El
namespace El
open PySem PySem.Spec PyProof.Rows L2
section
variable {P : Program} {w : World} {K : PySem.W.Frag} {mg : Str → Option Value} {base : Heap}
abbrev s__law_pot : Stmt := topS 20
abbrev N__law_pot : List Str := ["script", "at", "cell"]
abbrev P__law_pot : List Str := ["script", "at"]
theorem sc__law_pot : FnScope N__law_pot P__law_pot (defScope s__law_pot) := ⟨rfl, rfl, rfl, by decide +kernel, rfl, by decide +kernel, by decide +kernel⟩
def sp__law_pot (K : PySem.W.Frag) : Sp := fun vs H Q _ => ∃ (a : Addr) (ns : List Int) (i : Nat), vs = [.ref a, .int i] ∧ SqL K H a (ns.map V.int) ∧ i ≤ 1000 ∧
  ∀ H' b, Same H H' → H b = none → Pot H' b 0 → Q (.ref b) H'
theorem ok__law_pot (A : At K mg "_law_pot" P__law_pot s__law_pot) (B : Bi mg) : Df P w K mg base 1 "_law_pot" P__law_pot s__law_pot (sp__law_pot K) := by
  refine A.df fun f fd F => F.ok sc__law_pot (fun vs H Q E h => ?_) (fun cdv AA outer s H vs Q E hr h => ?_)
  · obtain ⟨_, _, _, rfl, _⟩ := h
    rfl
  · obtain ⟨a, ns, i, rfl, hS, hi, q⟩ := h
    have nd := sc__law_pot.nd
    refine ⟨_, (pss_cons (ps_set (i := 2) nd rfl (.inl rfl) pe_int)
    (pss_cons (ps_if (pt_cmpR op_lt (pv 1) (pe_callB call_len_seq (by rfl) B.len PySem.boot_len (pa_cons (pv 0) pa_nil)) (nomark _)) (pss_one (ps_set (i := 2) nd rfl (.inl rfl) (pe_ix ix_list (pv 0) (pv 1) (fun _ _ => rfl)))) pss_nil)
    (pss_one (ps_ret (pe_lst (pa_cons (pe_callB (call_max2 rfl) (by rfl) B.max (by decide +kernel) (pa_cons pe_int (pa_cons (pe_op op_sub (pe_callB call_abs (by rfl) B.abs (by decide +kernel) (pa_cons (pv 2) pa_nil)) (pe_op op_pow pe_int pe_int)) pa_nil))) (pa_cons (pe_op op_add (pe_op op_mod (pv 2) pe_int) (pe_op op_mul pe_int (pe_op op_add (pv 1) pe_int))) (pa_cons pe_int pa_nil)))))))), ?_⟩
    refine seq_set ?_
    refine seq_to (fun σ H2 => ∃ c : Int, σ = [some (.ref a), some (.int i), some (.int c)] ∧ H2 = H) (fun X hX => ?_) (fun σ H2 hE => ?_)
    · refine ⟨.int i, rfl, .ref a, rfl, a, _, rfl, .inl hS, _, _, rfl, rfl, _, rfl, ite2 (fun e => ?_) (fun _ => ?_)⟩
      · have e : (i : Int) < ((ns.map V.int).length : Nat) := of_decide_eq_true e
        rw [List.length_map] at e
        obtain ⟨c, ec⟩ := at_some (show i < ns.length by omega)
        exact ⟨.ref a, rfl, .int i, rfl, a, _, i, .int c, rfl, rfl, hS, atI_nat (by rw [List.getElem?_map, ec]; rfl), hX _ _ ⟨c, rfl, rfl⟩⟩
      · exact hX _ _ ⟨0, rfl, rfl⟩
    · obtain ⟨c, rfl, rfl⟩ := hE
      refine ⟨.int c, rfl, c, rfl, _, _, rfl, rfl, ⟨by decide, by decide, by decide⟩, _, _, rfl, rfl, _, _, rfl, ?_⟩
      refine ⟨.int c, rfl, _, _, rfl, rfl, (by show (0 : Int) < 2305843009213693951; decide), .int i, rfl, _, _, rfl, rfl, _, _, rfl, rfl, .inl (by decide), _, _, rfl, rfl, (by show 3 ≤ sizeLine; decide), fun p np => ?_⟩
      have h0 := Int.emod_nonneg c (show (2305843009213693951 : Int) ≠ 0 by decide)
      have h1 := Int.emod_lt_of_pos c (show (0 : Int) < 2305843009213693951 by decide)
      refine q _ p (same_new np) np ⟨_, _, 0, upd_same, ?_, by omega, by omega, Int.le_refl _, Int.le_refl _⟩
      split <;> omega
end
end El
namespace El
open PySem PySem.Spec PyProof.Rows L2
section
variable {P : Program} {w : World} {K : PySem.W.Frag} {mg : Str → Option Value} {base : Heap}
abbrev s__law_one_crowd : Stmt := topS 22
abbrev N__law_one_crowd : List Str := ["pot", "last", "wide", "count", "some"]
abbrev P__law_one_crowd : List Str := ["pot", "last", "wide"]
theorem sc__law_one_crowd : FnScope N__law_one_crowd P__law_one_crowd (defScope s__law_one_crowd) := ⟨rfl, rfl, rfl, by decide +kernel, rfl, by decide +kernel, by decide +kernel⟩
theorem Pot.off {H : Hp} {b : Addr} {n : Nat} (h : Pot H b n) {z : Addr} (e : H z = none) : z ≠ b := fun y => by
  obtain ⟨_, _, _, eb, _⟩ := h.ex
  rw [y, eb] at e
  cases e
theorem Pot.mut {H : Hp} {b : Addr} {n : Nat} (h : Pot H b n) {z : Addr} {o : HO} (y : z ≠ b) : Pot (upd H z o) b n := by
  obtain ⟨x, y', t, eb, r⟩ := h.ex
  exact ⟨x, y', t, by rw [upd_ne y.symm]; exact eb, r⟩
/-- nothing vanishes, nothing but the pot changes, the pot has been drawn from so often -/
structure Dr (H : Hp) (b : Addr) (n : Nat) (H' : Hp) : Prop where
  k : Kp (fun z => z ≠ b) H H'
  v : ∀ z, H' z = none → H z = none
  t : Pot H' b n
theorem Dr.start {H : Hp} {b : Addr} {n : Nat} (h : Pot H b n) : Dr H b n H := ⟨Kp.refl, fun _ e => e, h⟩
theorem Dr.same {H H' H'' : Hp} {b : Addr} {n : Nat} (h : Dr H b n H') (s : Same H' H'') : Dr H b n H'' := ⟨h.k.trans (.of s), fun z e => h.v z (s.free e), h.t.same s⟩
theorem Dr.draw {H H' H'' : Hp} {b : Addr} {n m : Nat} (h : Dr H b n H') (k : Kp (fun z => z ≠ b) H' H'') (t : Pot H'' b m) : Dr H b m H'' := ⟨h.k.trans k, fun z e => h.v z (k.none (t.off e) e), t⟩
theorem Dr.mut {H H' : Hp} {b : Addr} {n : Nat} (h : Dr H b n H') {z : Addr} {o : HO} (e : H z = none) (hb : z ≠ b) : Dr H b n (upd H' z o) := ⟨h.k.mutF e, fun y ey => by
  by_cases hz : y = z
  · rw [hz]
    exact e
  · rw [upd_ne hz] at ey
    exact h.v y ey, h.t.mut hb⟩
theorem Dr.more {H H' : Hp} {b : Addr} {n m : Nat} (h : Dr H b n H') (k : n ≤ m) : Dr H b m H' := ⟨h.k, h.v, h.t.more k⟩
theorem Dr.off {H H' : Hp} {b : Addr} {n : Nat} (h : Dr H b n H') {z : Addr} (e : H' z = none) : z ≠ b := h.t.off e
def sp__law_one_crowd : Sp := fun vs H Q _ => ∃ (b : Addr) (n : Nat) (last wide : Int), vs = [.ref b, .int last, .int wide] ∧ Pot H b n ∧ n ≤ 900000000 ∧ 0 ≤ last ∧ 6 ≤ wide ∧ wide < 2 ^ 150 ∧
  ∀ H' (t : Addr) (c : Int × Int), Dr H b (n + 10) H' → H t = none → H' t = some (.tup [.int c.1, .int c.2]) → (1 ≤ c.1 ∧ c.1 ≤ wide) ∧ 0 ≤ c.2 ∧ c.2 ≤ wide → Q (.ref t) H'
theorem ok__law_one_crowd (A : At K mg "_law_one_crowd" P__law_one_crowd s__law_one_crowd) (B : Bi mg) (D__law_draw : Df P w K mg base 1 "_law_draw" P__law_draw s__law_draw sp__law_draw) : Df P w K mg base 2 "_law_one_crowd" P__law_one_crowd s__law_one_crowd sp__law_one_crowd := by
  refine A.df fun f fd F => F.ok sc__law_one_crowd (fun vs H Q E h => ?_) (fun cdv AA outer s H vs Q E hr h => ?_)
  · obtain ⟨_, _, _, _, rfl, _⟩ := h
    rfl
  · obtain ⟨b, n, last, wide, rfl, hT, hn, l0, w6, w1, q⟩ := h
    have nd := sc__law_one_crowd.nd
    refine ⟨_, (pss_cons (ps_set (i := 3) nd rfl (.inl rfl) (pe_op op_add pe_int (pe_df D__law_draw (hr.mono (by decide)) (by rfl) (pa_cons (pv 0) (pa_cons (pe_ix ix_list (pe_lst (pa_cons pe_int (pa_cons pe_int (pa_cons (pv 2) pa_nil)))) (pe_df D__law_draw (hr.mono (by decide)) (by rfl) (pa_cons (pv 0) (pa_cons pe_int pa_nil))) (fun _ _ => rfl)) pa_nil)))))
    (pss_cons (ps_set (i := 4) nd rfl (.inl rfl) (pe_lst (pa_cons pe_int (pa_cons (pv 1) (pa_cons (pe_op op_add (pv 1) pe_int) (pa_cons (pe_df D__law_draw (hr.mono (by decide)) (by rfl) (pa_cons (pv 0) (pa_cons pe_int pa_nil))) (pa_cons (pe_df D__law_draw (hr.mono (by decide)) (by rfl) (pa_cons (pv 0) (pa_cons pe_int pa_nil))) (pa_cons (pe_df D__law_draw (hr.mono (by decide)) (by rfl) (pa_cons (pv 0) (pa_cons (pv 2) pa_nil))) pa_nil))))))))
    (pss_one (ps_ret (pe_tup (pa_cons (pv 3) (pa_cons (pe_callB (call_min2 rfl) (by rfl) B.min (by decide +kernel) (pa_cons (pe_ix ix_list (pv 4) (pe_df D__law_draw (hr.mono (by decide)) (by rfl) (pa_cons (pv 0) (pa_cons pe_int pa_nil))) (fun _ _ => rfl)) (pa_cons (pv 2) pa_nil))) pa_nil))))))), ?_⟩
    have big : ∀ {v : Int}, v < 2 ^ 150 → v < 2 ^ 200 := fun h => Int.lt_trans h (by decide)
    -- count
    refine ⟨.ref b, rfl, .int wide, rfl, (by show 3 ≤ sizeLine; decide), fun p np => ?_⟩
    have sp := same_new (o := .lst [.int 2, .int 6, .int wide]) np
    have D0 := (Dr.start hT).same sp
    have pb : p ≠ b := hT.off np
    refine ⟨.ref b, rfl, b, _, 3, rfl, D0.t, by omega, by decide, by decide, fun H1 r1 k1 T1 r10 r11 => ?_⟩
    have D1 := D0.draw k1 T1
    obtain ⟨v, hv, v1, vw⟩ := pick3 (P := fun v => 1 ≤ v ∧ v ≤ wide) r10 r11 (a := 2) (b := 6) (c := wide) ⟨by decide, by omega⟩ ⟨by decide, by omega⟩ ⟨by omega, by omega⟩
    refine ⟨p, _, _, .int v, rfl, rfl, SqL.of (k1 _ _ pb upd_same), hv, b, _, v, rfl, T1, by omega, by omega, big (by omega), fun H2 r2 k2 T2 r20 r21 => ⟨_, _, rfl, rfl, ?_⟩⟩
    dsimp only [gName]
    have D2 := D1.draw k2 T2
    -- some
    refine ⟨.int last, rfl, .int last, rfl, _, _, rfl, rfl, .ref b, rfl, b, _, 4, rfl, T2, by omega, by decide, by decide, fun H3 r3 k3 T3 r30 r31 => ⟨.ref b, rfl, b, _, 12, rfl, T3, by omega, by decide, by decide, fun H4 r4 k4 T4 r40 r41 =>
      ⟨.ref b, rfl, .int wide, rfl, b, _, wide, rfl, T4, by omega, by omega, big w1, fun H5 r5 k5 T5 r50 r51 => ⟨(by show 6 ≤ sizeLine; decide), fun p2 np2 => ?_⟩⟩⟩⟩
    dsimp only [gName]
    have D5 := ((D2.draw k3 T3).draw k4 T4).draw k5 T5
    have s6 := same_new (o := .lst [.int 0, .int last, .int (last + 1), .int r3, .int r4, .int r5]) np2
    have D6 := D5.same s6
    have p2b : p2 ≠ b := T5.off np2
    -- the pair
    refine ⟨.int (1 + r2), rfl, .ref p2, rfl, .ref b, rfl, b, _, 6, rfl, D6.t, by omega, by decide, by decide, fun H7 r7 k7 T7 r70 r71 => ?_⟩
    have D7 := D6.draw k7 T7
    obtain ⟨u, hu, mu⟩ := at_pick (xs := [V.int 0, .int last, .int (last + 1), .int r3, .int r4, .int r5]) r70 r71
    have mu' : ∃ y : Int, u = .int y ∧ 0 ≤ y := by
      simp only [List.mem_cons, List.not_mem_nil, or_false] at mu
      rcases mu with rfl | rfl | rfl | rfl | rfl | rfl
      · exact ⟨0, rfl, by decide⟩
      · exact ⟨last, rfl, l0⟩
      · exact ⟨last + 1, rfl, by omega⟩
      · exact ⟨r3, rfl, r30⟩
      · exact ⟨r4, rfl, r40⟩
      · exact ⟨r5, rfl, r50⟩
    obtain ⟨y, rfl, y0⟩ := mu'
    refine ⟨p2, _, _, .int y, rfl, rfl, SqL.of (k7 _ _ p2b upd_same), hu, .int wide, rfl, _, _, rfl, (by show 2 ≤ sizeLine; decide), fun T nT => ?_⟩
    have sT := same_new (o := .tup [.int (1 + r2), .int (if wide < y then wide else y)]) nT
    refine q _ T (1 + r2, if wide < y then wide else y) ((D7.same sT).more (by omega)) (D7.v T nT) upd_same ⟨⟨by show 1 ≤ 1 + r2; omega, by show 1 + r2 ≤ wide; omega⟩, ?_, ?_⟩
    · show 0 ≤ if wide < y then wide else y
      split <;> omega
    · show (if wide < y then wide else y) ≤ wide
      split <;> omega
end
end El
namespace El
open PySem PySem.Spec PyProof.Rows L2
section
variable {P : Program} {w : World} {K : PySem.W.Frag} {mg : Str → Option Value} {base : Heap}
abbrev s__law_lot : Stmt := topS 23
abbrev N__law_lot : List Str := ["pot", "most", "wide", "found", "last", "turn"]
abbrev P__law_lot : List Str := ["pot", "most", "wide"]
theorem sc__law_lot : FnScope N__law_lot P__law_lot (defScope s__law_lot) := ⟨rfl, rfl, rfl, by decide +kernel, rfl, by decide +kernel, by decide +kernel⟩
/-- crowds as they are drawn -/
abbrev Lots (wide : Int) (cs : List (Int × Int)) : Prop := ∀ c ∈ cs, (1 ≤ c.1 ∧ c.1 ≤ wide) ∧ 0 ≤ c.2 ∧ c.2 ≤ wide
theorem off_tops {H : Hp} {B : Addr → Prop} {a : Addr} {ts : List Addr} {gs : List (Int × Int)} (h : GsAt H B a ts gs) : a ∉ ts := fun m => by
  obtain ⟨i, e⟩ := List.mem_iff_getElem?.mp m
  have hl := at_lt e
  rw [h.len] at hl
  obtain ⟨g, eg⟩ := at_some hl
  have e1 := h.at' i a g e eg
  rw [h.top] at e1
  cases e1
def sp__law_lot : Sp := fun vs H Q _ => ∃ (b : Addr) (n : Nat) (most wide : Int), vs = [.ref b, .int most, .int wide] ∧ Pot H b n ∧ n ≤ 800000000 ∧ 0 ≤ most ∧ most ≤ 50 ∧ 6 ≤ wide ∧ wide < 2 ^ 150 ∧
  ∀ H' q us cs, Dr H b (n + 600) H' → GsAt H' (fun z => H z = none) q us cs → (cs.length : Int) ≤ most → Lots wide cs → Q (.ref q) H'
theorem ok__law_lot (A : At K mg "_law_lot" P__law_lot s__law_lot) (B : Bi mg) (D__law_draw : Df P w K mg base 1 "_law_draw" P__law_draw s__law_draw sp__law_draw) (D__law_one_crowd : Df P w K mg base 2 "_law_one_crowd" P__law_one_crowd s__law_one_crowd sp__law_one_crowd) : Df P w K mg base 3 "_law_lot" P__law_lot s__law_lot sp__law_lot := by
  refine A.df fun f fd F => F.ok sc__law_lot (fun vs H Q E h => ?_) (fun cdv AA outer s H vs Q E hr h => ?_)
  · obtain ⟨_, _, _, _, rfl, _⟩ := h
    rfl
  · obtain ⟨b, n, most, wide, rfl, hT, hn, m0, m50, w6, w1, q⟩ := h
    have nd := sc__law_lot.nd
    refine ⟨_, (pss_cons (ps_set (i := 3) nd rfl (.inl rfl) (pe_lst pa_nil))
    (pss_cons (ps_set (i := 4) nd rfl (.inl rfl) pe_int)
    (pss_cons (ps_for PassesOwn.never rfl (pi_range1 (by rfl) B.range (pa_cons (pe_df D__law_draw (hr.mono (by decide)) (by rfl) (pa_cons (pv 0) (pa_cons (pe_op op_add (pv 1) pe_int) pa_nil))) pa_nil)) (pg_name (i := 5) nd rfl (.inl rfl)) (pss_cons (ps_expr (pe_bm PySem.F.plainAttrs_list PySem.F.slot_list_append PySem.F.type_list_append mt_append (pv 3) (pa_cons (pe_df D__law_one_crowd (hr.mono (by decide)) (by rfl) (pa_cons (pv 0) (pa_cons (pv 4) (pa_cons (pv 2) pa_nil)))) pa_nil))) (pss_one (ps_set (i := 4) nd rfl (.inl rfl) (pe_ix ix_tup (pe_ix ix_list (pv 3) (pe_un un_neg pe_int) (fun _ _ => rfl)) pe_int (fun _ _ => rfl))))))
    (pss_one (ps_ret (pv 3)))))), ?_⟩
    refine ⟨Nat.zero_le _, fun fo nfo => ?_⟩
    have s1 := same_new (o := .lst []) nfo
    have nfb : fo ≠ b := hT.off nfo
    dsimp only [gName]
    refine seq_set ?_
    refine seq_to (fun σ H2 => ∃ y4 y5 us cs, σ = [some (.ref b), some (.int most), some (.int wide), some (.ref fo), y4, y5] ∧ Dr H b (n + 600) H2 ∧ GsAt H2 (fun z => H z = none) fo us cs ∧ (cs.length : Int) ≤ most ∧ Lots wide cs) (fun X hX => ?_) (fun σ H2 hE => ?_)
    · refine ⟨.ref b, rfl, .int most, rfl, _, _, rfl, rfl, b, n, _, rfl, hT.same s1, by omega, by omega, Int.lt_of_le_of_lt (show most + 1 ≤ 51 by omega) (by decide), fun Hd r kd Td r0 r1 => ⟨_, rfl, by omega, by omega, ?_⟩⟩
      refine for_it walk_range (fun k σ H2 => ∃ last y5 us cs, σ = [some (.ref b), some (.int most), some (.int wide), some (.ref fo), some (.int last), y5] ∧ 0 ≤ last ∧ Dr H b (n + 1 + 10 * k) H2 ∧ GsAt H2 (fun z => H z = none) fo us cs ∧ cs.length = k ∧ Lots wide cs)
        ⟨0, _, [], [], rfl, Int.le_refl _, ((Dr.start hT).same s1).draw kd Td, ⟨kd _ _ nfb upd_same, nfo, rfl, fun i t g e _ => by simp at e, fun t m => (List.not_mem_nil m).elim⟩, rfl, fun c m => (List.not_mem_nil m).elim⟩ (fun _ _ _ _ _ => trivial) (fun k v σ H2 H3 hk hW hY => ?_) (fun σ H2 hW => ?_)
      · obtain ⟨last, y5, us, cs, rfl, l0, D2, G2, lcs, hcs⟩ := hW
        obtain ⟨rfl, rfl⟩ := hY
        have hk50 : k < 51 := by omega
        refine ⟨.ref fo, rfl, .inl ⟨rfl, _, G2.seq⟩, .ref b, rfl, .int last, rfl, .int wide, rfl, b, _, last, wide, rfl, D2.t, by omega, l0, w6, w1, fun Hc T c Dc nT eT hc => ?_⟩
        have nF : ∀ z, H z = none → z ≠ b := fun z e => hT.off e
        have Gc := G2.keep (Dc.k.weak nF)
        have Dc' := D2.draw Dc.k Dc.t
        have nT0 : H T = none := D2.v T nT
        have hD : fo ∉ us := off_tops Gc
        have Tfo : T ≠ fo := fun z => by rw [z, G2.top] at nT; cases nT
        refine ⟨fo, _, .ref T, rfl, rfl, Gc.top, ils (by rw [List.length_map, Gc.len]; omega), ?_⟩
        have GF := Gc.push hD (q := T) (g := c) eT nT0
        have DF : Dr H b (n + 1 + 10 * k + 10) (upd Hc fo (.lst (us.map V.ref ++ [.ref T]))) := Dc'.mut nfo nfb
        refine ⟨.ref fo, rfl, 1, rfl, fo, _, -1, .ref T, rfl, rfl, SqL.of upd_same, atI_last _ _, T, _, 1, .int c.2, rfl, rfl, SqT.of ((upd_ne Tfo).trans eT), rfl, ?_⟩
        refine ⟨c.2, _, us ++ [T], cs ++ [c], rfl, hc.2.1, DF.more (by omega), GF, by rw [List.length_append, lcs]; rfl, fun x m => ?_⟩
        rcases List.mem_append.mp m with m | m
        · exact hcs x m
        · rw [List.mem_singleton.mp m]
          exact hc
      · obtain ⟨last, y5, us, cs, rfl, l0, D2, G2, lcs, hcs⟩ := hW
        exact hX _ _ ⟨_, _, us, cs, rfl, D2.more (by omega), G2, by omega, hcs⟩
    · obtain ⟨y4, y5, us, cs, rfl, D2, G2, lcs, hcs⟩ := hE
      exact ⟨_, rfl, q H2 fo us cs D2 G2 lcs hcs⟩
end
end El
namespace El
open PySem PySem.Spec PyProof.Rows L2
/-! ### the first crowd that there can't be -/
def Fine1 (c : Int × Int) : Prop := 1 ≤ c.1 ∧ 0 ≤ c.2
def FirstOff (cs : List (Int × Int)) (i : Nat) : Prop := (∃ c, cs[i]? = some c ∧ ¬ Fine1 c) ∧ ∀ (j : Nat) (c : Int × Int), j < i → cs[j]? = some c → Fine1 c
theorem FirstOff.one {cs : List (Int × Int)} {i j : Nat} {c : Int × Int} (h : FirstOff cs i) (e : cs[j]? = some c) (no : ¬ Fine1 c) (all : ∀ (k : Nat) (d : Int × Int), k < j → cs[k]? = some d → Fine1 d) : j = i := by
  obtain ⟨⟨d, ed, nd⟩, hb⟩ := h
  rcases Nat.lt_trichotomy j i with z | z | z
  · exact absurd (hb j c z e) no
  · exact z
  · exact absurd (all i d z ed) nd
theorem tiny_nat {i : Nat} (h : i ≤ 1000) : ((i : Nat) : Int).natAbs < 10 ^ 200 := by
  rw [Int.natAbs_natCast]
  exact Nat.lt_of_lt_of_le (show i < 1001 by omega) (by decide +kernel)
/-- what a def whose first argument is a list of crowds refuses, whatever the others are -/
def sp_bc (CC : Addr) (n : Nat) : Sp := fun vs H _ E => ∃ (B : Addr → Prop) (a : Addr) (ts : List Addr) (cs : List (Int × Int)) (i : Nat) (more : List V), vs = .ref a :: more ∧ more.length = n ∧ GsAt H B a ts cs ∧ cs.length ≤ 1000 ∧ FirstOff cs i ∧
  ∀ H' d, Same H H' → H' d = some (.xd [(("what" : Str), .int (i : Nat))]) → E (.ref CC) (some d) H'
/-- crowds as they can be, and a number below 0 -/
def sp_under (CS : Addr) : Sp := fun vs H _ E => ∃ (B : Addr → Prop) (a : Addr) (ts : List Addr) (cs : List (Int × Int)) (j : Int), vs = [.ref a, .int j] ∧ GsAt H B a ts cs ∧ Crw cs ∧ (∀ c ∈ cs, c.1 < 2 ^ 150 ∧ c.2 < 2 ^ 150) ∧ cs.length ≤ 100 ∧ j < 0 ∧ j.natAbs < 10 ^ 200 ∧
  ∀ H' d, Same H H' → H' d = some (.xd [(("what" : Str), .int j)]) → E (.ref CS) (some d) H'
/-- crowds as they can be, and a number of none of their guests -/
def sp_beyond (CG : Addr) : Sp := fun vs H _ E => ∃ (B : Addr → Prop) (a : Addr) (ts : List Addr) (cs : List (Int × Int)) (m : Int), vs = [.ref a, .int m] ∧ GsAt H B a ts cs ∧ Crw cs ∧ (∀ c ∈ cs, c.1 < 2 ^ 150 ∧ c.2 < 2 ^ 150) ∧ cs.length ≤ 100 ∧ (m < 1 ∨ allOf cs < m) ∧ m.natAbs < 10 ^ 200 ∧
  ∀ H' d, Same H H' → H' d = some (.xd [(("what" : Str), .int m)]) → E (.ref CG) (some d) H'
def sp_check_crowds_x (CC : Addr) : Sp := fun vs H Q E => sp_check_crowds vs H Q E0 ∨ sp_bc CC 0 vs H Q E
def sp_crowd_sizes_x (CC : Addr) : Sp := fun vs H Q E => sp_crowd_sizes vs H Q E0 ∨ sp_bc CC 0 vs H Q E
def sp_crowd_in_first_x (CC CS : Addr) : Sp := fun vs H Q E => sp_crowd_in_first vs H Q E0 ∨ (sp_bc CC 1 vs H Q E ∨ sp_under CS vs H Q E)
def sp_room_of_x (CC CG : Addr) : Sp := fun vs H Q E => sp_room_of vs H Q E0 ∨ (sp_bc CC 1 vs H Q E ∨ sp_beyond CG vs H Q E)
def sp_check_first_b (CS : Addr) : Sp := fun vs H _ E => ∃ j : Int, vs = [.int j] ∧ j.natAbs < 10 ^ 200 ∧ j < 0 ∧ ∀ H' d, Same H H' → H' d = some (.xd [(("what" : Str), .int j)]) → E (.ref CS) (some d) H'
def sp_check_first_x (CS : Addr) : Sp := fun vs H Q E => sp_check_first vs H Q E0 ∨ sp_check_first_b CS vs H Q E
theorem allOf_nn {cs : List (Int × Int)} (h : Crw cs) : 0 ≤ allOf cs := by
  unfold allOf
  induction cs with
  | nil => exact Int.le_refl _
  | cons c cs ih =>
    have h1 := h c List.mem_cons_self
    have h2 := ih fun d m => h d (List.mem_cons_of_mem _ m)
    rw [List.map_cons, List.sum_cons]
    omega
section
variable {P : Program} {w : World} {K : PySem.W.Frag} {mg : Str → Option Value} {base : Heap}
theorem okx_check_first {CS : Addr} (A : At K mg "check_first" P_check_first s_check_first) (E_NoRooms : OwnW P w K mg base "NoRooms" CS) : DfX P w K mg base 3 "check_first" P_check_first s_check_first (sp_check_first_x CS) := by
  refine Df.orx (ok_check_first A) (A.dfx fun f fd F => F.okX sc_check_first (fun vs H Q E h => ?_) (fun cdv AA outer s H vs Q E hr h => ?_)) (by decide)
  · obtain ⟨_, rfl, _⟩ := h
    rfl
  · obtain ⟨j, rfl, hj, hneg, q⟩ := h
    have nd := sc_check_first.nd
    refine ⟨_, (pss_one (ps_if (pt_cmpR op_lt (pv 0) pe_int (nomark _)) (pss_one (ps_raiseW E_NoRooms (hr.mono (by decide)) rfl (takes_of rfl rfl rfl rfl) (pa_cons (pv 0) pa_nil) (by rfl))) pss_nil)), ?_⟩
    exact ⟨_, rfl, _, _, rfl, rfl, _, rfl, ifYes (decide_eq_true hneg) ⟨_, rfl, .int j, rfl, .inl (.inl ⟨j, rfl, hj⟩), fun d nd => q _ d (same_new nd) upd_same⟩⟩
theorem okb_check_crowds {CC : Addr} (A : At K mg "check_crowds" P_check_crowds s_check_crowds) (B : Bi mg) (E_NoCrowd : OwnW P w K mg base "NoCrowd" CC) (D_is_crowd : Df P w K mg base 1 "is_crowd" P_is_crowd s_is_crowd sp_is_crowd) : DfX P w K mg base 3 "check_crowds" P_check_crowds s_check_crowds (sp_bc CC 0) := by
  refine A.dfx fun f fd F => F.okX sc_check_crowds (fun vs H Q E h => ?_) (fun cdv AA outer s H vs Q E hr h => ?_)
  · obtain ⟨_, _, _, _, _, more, rfl, hm, _⟩ := h
    rw [List.length_cons, hm]
    rfl
  · obtain ⟨BB, a, ts, cs, m, more, rfl, hm, hG, hl, hb, q⟩ := h
    obtain rfl := List.eq_nil_of_length_eq_zero hm
    have nd := sc_check_crowds.nd
    refine ⟨_, (pss_one (ps_for (passes_of rfl) rfl (pi_enum (by rfl) B.enumerate (pa_cons (pv 0) pa_nil)) (pg_tup (by rfl) (pgs_cons (pg_name (i := 1) nd rfl (.inl rfl)) (pgs_cons (pg_tup (by rfl) (pgs_cons (pg_name (i := 2) nd rfl (.inl rfl)) (pgs_cons (pg_name (i := 3) nd rfl (.inl rfl)) pgs_nil))) pgs_nil))) (pss_one (ps_if (pt_not (pt_val (pe_df D_is_crowd (hr.mono (by decide)) (by rfl) (pa_cons (pv 2) (pa_cons (pv 3) pa_nil))))) (pss_one (ps_raiseW E_NoCrowd (hr.mono (by decide)) rfl (takes_of rfl rfl rfl rfl) (pa_cons (pv 1) pa_nil) (by rfl))) pss_nil)))), ?_⟩
    refine ⟨.ref a, rfl, a, ts.map V.ref, rfl, hG.seq, ?_⟩
    refine for_it (walk_enum (xs := ts.map V.ref)) (fun i σ H2 => ∃ y2 y3 y4, σ = [some (.ref a), y2, y3, y4] ∧ Same H H2 ∧ ∀ (j : Nat) (d : Int × Int), j < i → cs[j]? = some d → Fine1 d) ⟨none, none, none, rfl, Same.refl _, fun j d h => absurd h (Nat.not_lt_zero _)⟩ (fun i σ H2 _ hW => ?_) (fun i x σ H2 H3 hi hW hY => ?_) (fun σ H2 hW => ?_)
    · obtain ⟨_, _, _, _, sm, _⟩ := hW
      exact (hG.same sm).seq
    · obtain ⟨y2, y3, y4, rfl, sm, ha⟩ := hW
      obtain ⟨T, x1, x2, rfl, nT, rfl, f1, f2⟩ := hY
      obtain rfl : V.int ↑i = x1 := Option.some.inj f1
      obtain ⟨t, g, rfl, eg, et⟩ := (hG.same sm).get f2
      have s3 : Same H2 (upd H2 T (.tup [.int i, .ref t])) := same_new nT
      refine ⟨T, [.int i, .ref t], rfl, SqT.of upd_same, rfl, .int i, [.ref t], rfl, .ref t, [], rfl, ?_⟩
      refine ⟨t, _, rfl, SqT.of (s3 _ _ et), rfl, .int g.1, [.int g.2], rfl, .int g.2, [], rfl, rfl, rfl, ?_⟩
      refine ⟨.int g.1, rfl, .int g.2, rfl, g.1, g.2, rfl, _, rfl, ?_⟩
      have hi' := at_lt eg
      by_cases hg : Fine1 g
      · rw [decide_eq_true hg.1, decide_eq_true hg.2]
        refine iteF ⟨_, _, _, rfl, sm.trans s3, fun j d hj e => ?_⟩
        by_cases h : j < i
        · exact ha j d h e
        · obtain rfl : j = i := by omega
          obtain rfl : g = d := Option.some.inj (eg.symm.trans e)
          exact hg
      · have hf : (decide (1 ≤ g.1) && decide (0 ≤ g.2)) = false := by
          by_cases h : 1 ≤ g.1
          · rw [decide_eq_false (fun z => hg ⟨h, z⟩), Bool.and_false]
          · rw [decide_eq_false h, Bool.false_and]
        rw [hf]
        obtain rfl := hb.one eg hg ha
        exact iteT ⟨.int i, rfl, .int i, rfl, .inl (.inl ⟨i, rfl, tiny_nat (by omega)⟩), fun d nd => q _ d ((sm.trans s3).trans (same_new nd)) upd_same⟩
    · obtain ⟨y2, y3, y4, rfl, sm, ha⟩ := hW
      obtain ⟨⟨c, ec, nc⟩, _⟩ := hb
      exact absurd (ha m c (by rw [List.length_map, hG.len]; exact at_lt ec) ec) nc
theorem okx_check_crowds {CC : Addr} (A : At K mg "check_crowds" P_check_crowds s_check_crowds) (B : Bi mg) (E_NoCrowd : OwnW P w K mg base "NoCrowd" CC) (D_is_crowd : Df P w K mg base 1 "is_crowd" P_is_crowd s_is_crowd sp_is_crowd) : DfX P w K mg base 3 "check_crowds" P_check_crowds s_check_crowds (sp_check_crowds_x CC) :=
  Df.orx (ok_check_crowds A B D_is_crowd) (okb_check_crowds A B E_NoCrowd D_is_crowd) (by decide)
theorem okx_crowd_sizes {CC : Addr} (A : At K mg "crowd_sizes" P_crowd_sizes s_crowd_sizes) (B : Bi mg) (XD_check_crowds : DfX P w K mg base 3 "check_crowds" P_check_crowds s_check_crowds (sp_check_crowds_x CC)) (D_after_crowd : Df P w K mg base 3 "after_crowd" P_after_crowd s_after_crowd sp_after_crowd)
    (D_crowd_sizes : Df P w K mg base 4 "crowd_sizes" P_crowd_sizes s_crowd_sizes sp_crowd_sizes) : DfX P w K mg base 4 "crowd_sizes" P_crowd_sizes s_crowd_sizes (sp_crowd_sizes_x CC) := by
  refine Df.orx D_crowd_sizes (A.dfx fun f fd F => F.okX sc_crowd_sizes (fun vs H Q E h => ?_) (fun cdv AA outer s H vs Q E hr h => ?_)) (by decide)
  · obtain ⟨_, _, _, _, _, more, rfl, hm, _⟩ := h
    rw [List.length_cons, hm]
    rfl
  · obtain ⟨BB, a, ts, cs, m, more, rfl, hm, hG, hl, hb, q⟩ := h
    obtain rfl := List.eq_nil_of_length_eq_zero hm
    have nd := sc_crowd_sizes.nd
    refine ⟨_, (pss_cons (ps_expr (pe_dfS XD_check_crowds (takes_of rfl rfl rfl rfl) (hr.mono (by decide)) (by rfl) (pa_cons (pv 0) pa_nil)))
    (pss_cons (ps_set (i := 1) nd rfl (.inl rfl) (pe_lst pa_nil))
    (pss_cons (ps_for (passes_of rfl) rfl (pi_list (pv 0)) (pg_tup (by rfl) (pgs_cons (pg_name (i := 2) nd rfl (.inl rfl)) (pgs_cons (pg_name (i := 3) nd rfl (.inl rfl)) pgs_nil))) (pss_one (ps_set (i := 1) nd rfl (.inl rfl) (pe_df D_after_crowd (hr.mono (by decide)) (by rfl) (pa_cons (pv 1) (pa_cons (pv 2) (pa_cons (pv 3) pa_nil)))))))
    (pss_one (ps_ret (pv 1)))))), ?_⟩
    exact ⟨.ref a, rfl, .inr ⟨BB, a, ts, cs, m, [], rfl, rfl, hG, hl, hb, q⟩⟩
theorem okx_crowd_in_first {CC CS : Addr} (A : At K mg "crowd_in_first" P_crowd_in_first s_crowd_in_first) (B : Bi mg) (XD_crowd_sizes : DfX P w K mg base 4 "crowd_sizes" P_crowd_sizes s_crowd_sizes (sp_crowd_sizes_x CC)) (XD_check_first : DfX P w K mg base 3 "check_first" P_check_first s_check_first (sp_check_first_x CS))
    (D_crowd_in_first : Df P w K mg base 5 "crowd_in_first" P_crowd_in_first s_crowd_in_first sp_crowd_in_first) : DfX P w K mg base 5 "crowd_in_first" P_crowd_in_first s_crowd_in_first (sp_crowd_in_first_x CC CS) := by
  refine Df.orx D_crowd_in_first (A.dfx fun f fd F => F.okX sc_crowd_in_first (fun vs H Q E h => ?_) (fun cdv AA outer s H vs Q E hr h => ?_)) (by decide)
  · rcases h with ⟨_, _, _, _, _, more, rfl, hm, _⟩ | ⟨_, _, _, _, _, rfl, _⟩
    · rw [List.length_cons, hm]
      rfl
    · rfl
  · have nd := sc_crowd_in_first.nd
    refine ⟨_, (pss_cons (ps_set (i := 2) nd rfl (.inl rfl) (pe_dfS XD_crowd_sizes (takes_of rfl rfl rfl rfl) (hr.mono (by decide)) (by rfl) (pa_cons (pv 0) pa_nil)))
    (pss_cons (ps_expr (pe_dfS XD_check_first (takes_of rfl rfl rfl rfl) (hr.mono (by decide)) (by rfl) (pa_cons (pv 1) pa_nil)))
    (pss_cons (ps_set (i := 3) nd rfl (.inl rfl) pe_int)
    (pss_cons (ps_set (i := 4) nd rfl (.inl rfl) (pv 1))
    (pss_cons (ps_for (passes_of rfl) rfl (pi_list (pv 2)) (pg_tup (by rfl) (pgs_cons (pg_name (i := 5) nd rfl (.inl rfl)) (pgs_cons (pg_name (i := 6) nd rfl (.inl rfl)) pgs_nil))) (pss_cons (ps_set (i := 7) nd rfl (.inl rfl) (pe_callB (call_min2 rfl) (by rfl) B.min (by decide +kernel) (pa_cons (pv 6) (pa_cons (pv 4) pa_nil)))) (pss_cons (ps_aug (i := 3) nd rfl (.inl rfl) (pe_op op_mulW (pv 7) (pv 5)) ip_add) (pss_one (ps_aug (i := 4) nd rfl (.inl rfl) (pv 7) ip_sub)))))
    (pss_one (ps_ret (pv 3)))))))), ?_⟩
    rcases h with ⟨BB, a, ts, cs, m, more, rfl, hm, hG, hl, hb, q⟩ | ⟨BB, a, ts, cs, j, rfl, hG, hC, hc, hl, hj, hj2, q⟩
    · exact ⟨.ref a, rfl, .inr ⟨BB, a, ts, cs, m, [], rfl, rfl, hG, hl, hb, q⟩⟩
    · refine ⟨.ref a, rfl, .inl ⟨BB, a, ts, cs, rfl, hG, hC, hc, hl, fun H1 o us R s1 _ _ _ => ?_⟩⟩
      exact ⟨.int j, rfl, .inr ⟨j, rfl, hj2, hj, fun H' d s => q H' d (s1.trans s)⟩⟩
theorem okx_room_of {CC CG : Addr} (A : At K mg "room_of" P_room_of s_room_of) (B : Bi mg) (E_NoGuest : OwnW P w K mg base "NoGuest" CG) (XD_check_crowds : DfX P w K mg base 3 "check_crowds" P_check_crowds s_check_crowds (sp_check_crowds_x CC)) (D_after_crowd : Df P w K mg base 3 "after_crowd" P_after_crowd s_after_crowd sp_after_crowd)
    (D_room_of_nth : Df P w K mg base 2 "room_of_nth" P_room_of_nth s_room_of_nth sp_room_of_nth) (D_room_of : Df P w K mg base 4 "room_of" P_room_of s_room_of sp_room_of) : DfX P w K mg base 4 "room_of" P_room_of s_room_of (sp_room_of_x CC CG) := by
  refine Df.orx D_room_of (A.dfx fun f fd F => F.okX sc_room_of (fun vs H Q E h => ?_) (fun cdv AA outer s H vs Q E hr h => ?_)) (by decide)
  · rcases h with ⟨_, _, _, _, _, more, rfl, hm, _⟩ | ⟨_, _, _, _, _, rfl, _⟩
    · rw [List.length_cons, hm]
      rfl
    · rfl
  · have nd := sc_room_of.nd
    refine ⟨_, (pss_cons (ps_expr (pe_dfS XD_check_crowds (takes_of rfl rfl rfl rfl) (hr.mono (by decide)) (by rfl) (pa_cons (pv 0) pa_nil)))
    (pss_cons (ps_if (pt_cmpR op_lt (pv 1) pe_int (nomark _)) (pss_one (ps_raiseW E_NoGuest (hr.mono (by decide)) rfl (takes_of rfl rfl rfl rfl) (pa_cons (pv 1) pa_nil) (by rfl))) pss_nil)
    (pss_cons (ps_set (i := 2) nd rfl (.inl rfl) (pe_lst pa_nil))
    (pss_cons (ps_set (i := 3) nd rfl (.inl rfl) (pv 1))
    (pss_cons (ps_for (passes_of rfl) rfl (pi_list (pv 0)) (pg_tup (by rfl) (pgs_cons (pg_name (i := 4) nd rfl (.inl rfl)) (pgs_cons (pg_name (i := 5) nd rfl (.inl rfl)) pgs_nil))) (pss_cons (ps_if (pt_cmpR op_le (pv 3) (pv 4) (nomark _)) (pss_one (ps_ret (pe_df D_room_of_nth (hr.mono (by decide)) (by rfl) (pa_cons (pv 2) (pa_cons (pv 5) (pa_cons (pv 3) pa_nil)))))) pss_nil) (pss_cons (ps_set (i := 2) nd rfl (.inl rfl) (pe_df D_after_crowd (hr.mono (by decide)) (by rfl) (pa_cons (pv 2) (pa_cons (pv 4) (pa_cons (pv 5) pa_nil))))) (pss_one (ps_aug (i := 3) nd rfl (.inl rfl) (pv 4) ip_sub)))))
    (pss_one (ps_raiseW E_NoGuest (hr.mono (by decide)) rfl (takes_of rfl rfl rfl rfl) (pa_cons (pv 1) pa_nil) (by rfl)))))))), ?_⟩
    rcases h with ⟨BB, a, ts, cs, m, more, rfl, hm, hG, hl, hb, q⟩ | ⟨BB, a, ts, cs, m, rfl, hG, hC, hc, hl, hm, hm2, q⟩
    · exact ⟨.ref a, rfl, .inr ⟨BB, a, ts, cs, m, [], rfl, rfl, hG, hl, hb, q⟩⟩
    · refine ⟨.ref a, rfl, .inl ⟨BB, a, ts, cs, rfl, hG, hC, fun H1 s1 => ?_⟩⟩
      refine ⟨.int m, rfl, _, _, rfl, rfl, _, rfl, ite2 (fun e => ?_) (fun e => ?_)⟩
      · exact ⟨.int m, rfl, .int m, rfl, .inl (.inl ⟨m, rfl, hm2⟩), fun d nd => q _ d (s1.trans (same_new nd)) upd_same⟩
      have m1 : ¬ m < 1 := fun z => e (decide_eq_true z)
      have hma := hm.resolve_left m1
      refine ⟨Nat.zero_le _, fun o no => ?_⟩
      dsimp only [gName]
      have s2 := s1.trans (same_new (o := .lst []) no)
      refine ⟨.int m, rfl, ?_⟩
      dsimp only [gName]
      refine seq_to (fun σ H2 => ∃ y2 y3 y4 y5, σ = [some (.ref a), some (.int m), y2, y3, y4, y5] ∧ Same H H2) (fun X hX => ?_) (fun σ H2 hE => ?_)
      · refine ⟨.ref a, rfl, a, rfl, ⟨_, (hG.same s2).seq⟩, ?_⟩
        refine for_it (walk_list (xs := ts.map V.ref)) (fun i σ H2 => ∃ o us R nth y4 y5, σ = [some (.ref a), some (.int m), some (.ref o), some (.int nth), y4, y5] ∧ Same H H2 ∧ GsAt H2 (fun b => H b = none) o us R ∧ Rle R (seat (cs.take i)) ∧ R.length ≤ 3 * i ∧ (seat (cs.take i)).length ≤ i * 2 ^ 150 ∧ allOf (cs.drop i) < nth)
          ⟨o, [], [], m, _, _, rfl, s2, ⟨upd_same, s1.free no, rfl, fun i t g e _ => by simp at e, fun t m => (List.not_mem_nil m).elim⟩, ⟨rfl, .nil, fun r m => (List.not_mem_nil m).elim⟩, Nat.zero_le _, Nat.zero_le _, hma⟩ (fun i σ H2 _ hW => ?_) (fun i v σ H2 H3 hi hW hY => ?_) (fun σ H2 hW => ?_)
        · obtain ⟨_, _, _, _, _, _, _, s3, _⟩ := hW
          exact (hG.same s3).seq
        · obtain ⟨o, us, R, nth, y4, y5, rfl, s3, Go, Ro, lR, lL, n2⟩ := hW
          obtain ⟨rfl, hx⟩ := hY
          obtain ⟨t, c, rfl, eg, et⟩ := (hG.same s3).get hx
          have hi' := at_lt eg
          have mc := List.mem_of_getElem? eg
          have c0 := hC c mc
          have c1 := hc c mc
          have hdr : cs.drop i = c :: cs.drop (i + 1) := by
            obtain ⟨h1, h2⟩ := List.getElem?_eq_some_iff.mp eg
            rw [List.drop_eq_getElem_cons h1, h2]
          rw [hdr] at n2
          have hall : allOf (c :: cs.drop (i + 1)) = c.1 + allOf (cs.drop (i + 1)) := rfl
          rw [hall] at n2
          have hrest : 0 ≤ allOf (cs.drop (i + 1)) := allOf_nn fun d md => hC d (List.mem_of_mem_drop md)
          have h1 : i * 2 ^ 150 ≤ 100 * 2 ^ 150 := Nat.mul_le_mul_right _ (by omega)
          have hr2 : ∀ r ∈ R, r.2 < 2 ^ 190 := fun r m => by
            have := ex_len m
            rw [← Ro.e] at this
            omega
          refine ⟨t, _, rfl, SqT.of et, rfl, .int c.1, _, rfl, .int c.2, _, rfl, rfl, ?_⟩
          refine ⟨.int nth, rfl, .int c.1, rfl, _, _, rfl, rfl, _, rfl, ifNo (decide_eq_false (by omega)) ?_⟩
          refine ⟨.ref o, rfl, .int c.1, rfl, .int c.2, rfl, _, o, us, R, seat (cs.take i), c.1, c.2, rfl, Go, Ro, by omega, by omega, by omega, by omega, hr2, by omega, fun H4 q4 us4 R4 s4 G4 Rl4 l4 => ?_⟩
          dsimp only [gName]
          refine ⟨.int nth, rfl, .int c.1, rfl, _, _, rfl, rfl, ?_⟩
          refine ⟨q4, us4, R4, nth - c.1, _, _, rfl, s3.trans s4, G4.weaken fun b e => s3.free e, ?_, by omega, ?_, by omega⟩
          · rw [take_snoc eg, seat_snoc]
            exact Rl4
          · rw [take_snoc eg, seat_snoc]
            have := sitN_len c.2 c.1.toNat (seat (cs.take i))
            have h2 : (i + 1) * 2 ^ 150 = i * 2 ^ 150 + 2 ^ 150 := by rw [Nat.add_mul, Nat.one_mul]
            omega
        · obtain ⟨o, us, R, nth, y4, y5, rfl, s3, _⟩ := hW
          exact hX _ _ ⟨_, _, _, _, rfl, s3⟩
      · obtain ⟨y2, y3, y4, y5, rfl, s3⟩ := hE
        exact ⟨.int m, rfl, .int m, rfl, .inl (.inl ⟨m, rfl, hm2⟩), fun d nd => q _ d (s3.trans (same_new nd)) upd_same⟩
end
end El
namespace El
open PySem PySem.Spec PyProof.Rows L2
/-- an error of the class at C, as the law asks: of crowds, of rooms, of guests -/
structure KdC (K : PySem.W.Frag) (C0 CC CS CG CR CT C : Addr) (b0 b1 b2 : Bool) : Prop where
  te : PySem.W.exmOne K (.ref C) (.ref C0) = some true
  k0 : PySem.W.kitOne K (.ref C) (.ref CC) = some b0
  k1 : PySem.W.kitOne K (.ref C) (.ref CS) = some b1
  k2 : PySem.W.kitOne K (.ref C) (.ref CG) = some b2
  kn : PySem.W.kitAny K (.ref C) [.ref CR, .ref CT] = some false
  kv : PySem.W.kitOne K (.ref C) (.type "ValueError") = some true
  one : (b0 = true ∧ b1 = false ∧ b2 = false) ∨ (b0 = false ∧ b1 = true ∧ b2 = false) ∨ (b0 = false ∧ b1 = false ∧ b2 = true)
def wC (b0 b1 : Bool) : Str := if b0 = true then ("crowd" : Str) else if b1 = true then ("rooms" : Str) else ("guest" : Str)
def iC (b0 b1 : Bool) : Nat := if b0 = true then 0 else if b1 = true then 1 else 2
theorem idxC {b0 b1 b2 : Bool} (h : (b0 = true ∧ b1 = false ∧ b2 = false) ∨ (b0 = false ∧ b1 = true ∧ b2 = false) ∨ (b0 = false ∧ b1 = false ∧ b2 = true)) : ∀ (m : Nat) (z : V), m < iC b0 b1 → ([V.bl b0, .bl b1, .bl b2] : List V)[m]? = some z → eqV z (V.bl true) = false := by
  intro m z hm e
  rcases h with ⟨rfl, rfl, rfl⟩ | ⟨rfl, rfl, rfl⟩ | ⟨rfl, rfl, rfl⟩
  · exact absurd hm (Nat.not_lt_zero _)
  · have hm : m < 1 := hm
    obtain rfl : m = 0 := by omega
    obtain rfl : V.bl false = z := Option.some.inj e
    rfl
  · have hm : m < 2 := hm
    rcases m with _ | _ | m
    · obtain rfl : V.bl false = z := Option.some.inj e
      rfl
    · obtain rfl : V.bl false = z := Option.some.inj e
      rfl
    · omega
section
variable {P : Program} {w : World} {K : PySem.W.Frag} {mg : Str → Option Value} {base : Heap}
abbrev s__law_kind : Stmt := topS 24
abbrev N__law_kind : List Str := ["e", "some"]
abbrev P__law_kind : List Str := ["e"]
theorem sc__law_kind : FnScope N__law_kind P__law_kind (defScope s__law_kind) := ⟨rfl, rfl, rfl, by decide +kernel, rfl, by decide +kernel, by decide +kernel⟩
def sp__law_kind (K : PySem.W.Frag) (mg : Str → Option Value) (C0 CC CS CG CR CT : Addr) : Sp := fun vs H Q _ => ∃ (a D : Addr) (v : V) (z : Dv) (b0 b1 b2 : Bool), vs = [.ref a] ∧ ExcAt K mg H a D v ∧ KdC K C0 CC CS CG CR CT D b0 b1 b2 ∧ z.is H v ∧
  ∀ H' w, Same H H' → DvAt H' w (some (wC b0 b1, z)) → Q w H'
theorem ok__law_kind {C0 CC CS CG CR CT : Addr} (A : At K mg "_law_kind" P__law_kind s__law_kind) (B : Bi mg) (G_NoGuest : mg "NoGuest" = some (.ref CG)) (G_NoRooms : mg "NoRooms" = some (.ref CS)) (G_NoRoom : mg "NoRoom" = some (.ref CR)) (G_NoCrowd : mg "NoCrowd" = some (.ref CC)) (G_NoText : mg "NoText" = some (.ref CT))
    (JX : IsX K) : Df P w K mg base 1 "_law_kind" P__law_kind s__law_kind (sp__law_kind K mg C0 CC CS CG CR CT) := by
  refine A.df fun f fd F => F.ok sc__law_kind (fun vs H Q E h => ?_) (fun cdv AA outer s H vs Q E hr h => ?_)
  · obtain ⟨_, _, _, _, _, _, _, rfl, _⟩ := h
    rfl
  · obtain ⟨a, D, v, z, b0, b1, b2, rfl, hx, kd, hz, q⟩ := h
    have nd := sc__law_kind.nd
    refine ⟨_, (pss_cons (ps_set (i := 1) nd rfl (.inl rfl) (pe_lst (pa_cons (pe_callB (call_isE K mg) (by rfl) B.isinstance (by decide +kernel) (pa_cons (pv 0) (pa_cons (pe_glob rfl G_NoCrowd (relRef _)) pa_nil))) (pa_cons (pe_callB (call_isE K mg) (by rfl) B.isinstance (by decide +kernel) (pa_cons (pv 0) (pa_cons (pe_glob rfl G_NoRooms (relRef _)) pa_nil))) (pa_cons (pe_callB (call_isE K mg) (by rfl) B.isinstance (by decide +kernel) (pa_cons (pv 0) (pa_cons (pe_glob rfl G_NoGuest (relRef _)) pa_nil))) pa_nil)))))
    (pss_cons (ps_if (PW.pt (pw_or (pt_val (pe_callB (call_isE K mg) (by rfl) B.isinstance (by decide +kernel) (pa_cons (pv 0) (pa_cons (pe_tup (pa_cons (pe_glob rfl G_NoRoom (relRef _)) (pa_cons (pe_glob rfl G_NoText (relRef _)) pa_nil))) pa_nil)))) (pw_or (pt_not (pt_val (pe_callB (call_isE K mg) (by rfl) B.isinstance (by decide +kernel) (pa_cons (pv 0) (pa_cons (pe_bltn (by rfl) B.ValueError_ bootVE (relTy _)) pa_nil))))) (pw_or1 (pt_cmpR op_ne (pe_bm PySem.F.plainAttrs_list PySem.F.slot_list_count PySem.F.type_list_count (mtCountK K) (pv 1) (pa_cons pe_bl pa_nil)) pe_int (nomark _)))))) (pss_one (ps_ret (pe_tup (pa_cons pe_str (pa_cons pe_non pa_nil))))) pss_nil)
    (pss_one (ps_ret (pe_tup (pa_cons (pe_ix ix_list (pe_lst (pa_cons pe_str (pa_cons pe_str (pa_cons pe_str pa_nil)))) (pe_bm PySem.F.plainAttrs_list PySem.F.slot_list_index PySem.F.type_list_index (mtIndexK K) (pv 1) (pa_cons pe_bl pa_nil)) (fun _ _ => rfl)) (pa_cons (pe_what K mg (pv 0)) pa_nil))))))), ?_⟩
    refine ⟨.ref a, rfl, a, D, v, hx, JX, .inl ⟨.ref CC, .ref CC, _, rfl, fun u r => r, kd.k0, ?_⟩⟩
    refine ⟨.ref a, rfl, a, D, v, hx, JX, .inl ⟨.ref CS, .ref CS, _, rfl, fun u r => r, kd.k1, ?_⟩⟩
    refine ⟨.ref a, rfl, a, D, v, hx, JX, .inl ⟨.ref CG, .ref CG, _, rfl, fun u r => r, kd.k2, ?_⟩⟩
    refine ⟨(by show 3 ≤ sizeLine; decide), fun so nso => ?_⟩
    have s1 := same_new (o := .lst [.bl b0, .bl b1, .bl b2]) nso
    have e1 : upd H so (.lst [.bl b0, .bl b1, .bl b2]) so = some (.lst [.bl b0, .bl b1, .bl b2]) := upd_same
    revert s1 e1
    generalize upd H so (.lst [.bl b0, .bl b1, .bl b2]) = H1
    intro s1 e1
    have hk := kd.one
    have hcnt : (([V.bl b0, .bl b1, .bl b2] : List V).countP fun z => eqV z (.bl true)) = 1 := by
      rcases hk with ⟨rfl, rfl, rfl⟩ | ⟨rfl, rfl, rfl⟩ | ⟨rfl, rfl, rfl⟩ <;> rfl
    have hix : ([V.bl b0, .bl b1, .bl b2] : List V)[iC b0 b1]? = some (.bl true) := by
      rcases hk with ⟨rfl, rfl, rfl⟩ | ⟨rfl, rfl, rfl⟩ | ⟨rfl, rfl, rfl⟩ <;> rfl
    have hwd : ([V.str "crowd", .str "rooms", .str "guest"] : List V)[iC b0 b1]? = some (.str (wC b0 b1)) := by
      rcases hk with ⟨rfl, rfl, rfl⟩ | ⟨rfl, rfl, rfl⟩ | ⟨rfl, rfl, rfl⟩ <;> rfl
    refine ⟨.ref a, rfl, (by show 2 ≤ sizeLine; decide), fun tp ntp => ?_⟩
    have s2 := same_new (o := .tup [.ref CR, .ref CT]) ntp
    have s12 := s1.trans s2
    refine ⟨a, D, v, hx.keep s12, JX, .inr ⟨tp, _, _, false, rfl, SqT.of upd_same, fun us r => valsRefs (l := [CR, CT]) r, kd.kn, false, rfl, iteF ?_⟩⟩
    have e2 := s2 _ _ e1
    revert e2 s12
    clear s2
    generalize upd H1 tp (.tup [.ref CR, .ref CT]) = H2
    intro s2 e2
    refine ⟨.ref a, rfl, a, D, v, hx.keep s2, JX, .inl ⟨.ty "ValueError", .type "ValueError", true, rfl, fun u r => r, kd.kv, true, rfl, iteF ?_⟩⟩
    refine ⟨.ref so, rfl, .inl ⟨rfl, _, SqL.of e2⟩, so, _, .bl true, rfl, rfl, SqL.of e2, rfl, rfl, ?_⟩
    rw [hcnt]
    refine ⟨rfl, _, rfl, iteX (by rfl) ?_⟩
    refine ⟨(by show 3 ≤ sizeLine; decide), fun tw ntw => ?_⟩
    have s3 := same_new (o := .lst [.str "crowd", .str "rooms", .str "guest"]) ntw
    have s23 := s2.trans s3
    have e3 := s3 _ _ e2
    refine ⟨.ref so, rfl, .inl ⟨rfl, _, SqL.of e3⟩, so, _, .bl true, iC b0 b1, .bl true, rfl, rfl, SqL.of e3, rfl, rfl, hix, rfl, idxC hk, ?_⟩
    refine ⟨tw, _, _, .str (wC b0 b1), rfl, rfl, SqL.of upd_same, atI_nat hwd, ?_⟩
    refine ⟨.ref a, rfl, a, D, v, rfl, hx.keep s23, (by show 2 ≤ sizeLine; decide), fun t nt => ?_⟩
    have s4 := same_new (o := .tup [.str (wC b0 b1), v]) nt
    exact q _ (.ref t) (s23.trans s4) ⟨t, v, rfl, upd_same, hz.same (s23.trans s4)⟩
end
end El
namespace El
open PySem PySem.Spec PyProof.Rows L2
theorem with_key {W : WX} {G : Prop} {Pk : Value → Option Addr → Hp → Prop} {σ : L2.St} (main : (∀ c d H1, Pk c d H1 → W c d σ H1) → G) (k : ∀ c d H1, Pk c d H1 → W c d σ H1) : G := main k
/-- what one of the five askings is to be refused with -/
def DueC (door : Int) (cs : List (Int × Int)) (n : Int) (D : Str × Dv) : Prop :=
  (∃ i, FirstOff cs i ∧ D = (("crowd" : Str), .num (i : Nat))) ∨ (Crw cs ∧ ((door = 0 ∧ D = (("none" : Str), .non)) ∨ ((door = 1 ∨ door = 3) ∧ ((n < 0 ∧ D = (("rooms" : Str), .num n)) ∨ (0 ≤ n ∧ D = (("none" : Str), .non)))) ∨
    ((door = 2 ∨ door = 4) ∧ (((n < 1 ∨ allOf cs < n) ∧ D = (("guest" : Str), .num n)) ∨ (1 ≤ n ∧ n ≤ allOf cs ∧ D = (("none" : Str), .non))))))
section
variable {P : Program} {w : World} {K : PySem.W.Frag} {mg : Str → Option Value} {base : Heap}
abbrev s__law_asked : Stmt := topS 27
abbrev N__law_asked : List Str := ["door", "lot", "number", "caught", "e"]
abbrev P__law_asked : List Str := ["door", "lot", "number"]
theorem sc__law_asked : FnScope N__law_asked P__law_asked (defScope s__law_asked) := ⟨rfl, rfl, rfl, by decide +kernel, rfl, by decide +kernel, by decide +kernel⟩
def sp__law_asked : Sp := fun vs H Q _ => ∃ (BB : Addr → Prop) (a : Addr) (door n : Int) (ts : List Addr) (cs : List (Int × Int)) (D : Str × Dv), vs = [.int door, .ref a, .int n] ∧ 0 ≤ door ∧ door ≤ 4 ∧ GsAt H BB a ts cs ∧ cs.length ≤ 100 ∧ (∀ c ∈ cs, c.1 < 2 ^ 150 ∧ c.2 < 2 ^ 150) ∧ n.natAbs < 10 ^ 200 ∧ n < 2 ^ 190 ∧ DueC door cs n D ∧
  ∀ H' v, Same H H' → DvAt H' v (some D) → Q v H'
theorem ok__law_asked {C0 CC CS CG CR CT : Addr} (A : At K mg "_law_asked" P__law_asked s__law_asked) (B : Bi mg) (G_InnError : mg "InnError" = some (.ref C0)) (KC : KdC K C0 CC CS CG CR CT CC true false false) (KS : KdC K C0 CC CS CG CR CT CS false true false) (KG : KdC K C0 CC CS CG CR CT CG false false true)
    (OC : ∃ x fI, Own K mg x CC fI) (OS : ∃ x fI, Own K mg x CS fI) (OG : ∃ x fI, Own K mg x CG fI)
    (XD_crowd_sizes : DfX P w K mg base 4 "crowd_sizes" P_crowd_sizes s_crowd_sizes (sp_crowd_sizes_x CC)) (XD_crowd_in_first : DfX P w K mg base 5 "crowd_in_first" P_crowd_in_first s_crowd_in_first (sp_crowd_in_first_x CC CS)) (XD_room_of : DfX P w K mg base 4 "room_of" P_room_of s_room_of (sp_room_of_x CC CG))
    (D__law_kind : Df P w K mg base 1 "_law_kind" P__law_kind s__law_kind (sp__law_kind K mg C0 CC CS CG CR CT)) : Df P w K mg base 6 "_law_asked" P__law_asked s__law_asked sp__law_asked := by
  refine A.df fun f fd F => F.ok sc__law_asked (fun vs H Q E h => ?_) (fun cdv AA outer s H vs Q E hr h => ?_)
  · obtain ⟨_, _, _, _, _, _, _, rfl, _⟩ := h
    rfl
  · obtain ⟨BB, a, door, n, ts, cs, D, rfl, hd0, hd4, hG, hl, hc, hn, hn2, hD, q⟩ := h
    have nd := sc__law_asked.nd
    refine ⟨_, (pss_cons (ps_set (i := 3) nd rfl (.inl rfl) pe_non)
    (pss_cons (ps_try_kept (i := 4) rfl rfl nd rfl rfl ⟨rfl, by decide, .inl G_InnError⟩ rfl (fun W pn xe tk po => (pss_one (ps_if (pt_cmpR op_eq (pv 0) pe_int (nomark _)) (pss_one (ps_expr (pe_dfS XD_crowd_sizes tk (hr.mono (by decide)) (by rfl) (pa_cons (pv 1) pa_nil)))) (pss_one (ps_if (pt_cmpR op_eq (pv 0) pe_int (nomark _)) (pss_one (ps_expr (pe_dfS XD_crowd_in_first tk (hr.mono (by decide)) (by rfl) (pa_cons (pv 1) (pa_cons (pv 2) pa_nil))))) (pss_one (ps_if (pt_cmpR op_eq (pv 0) pe_int (nomark _)) (pss_one (ps_expr (pe_dfS XD_room_of tk (hr.mono (by decide)) (by rfl) (pa_cons (pv 1) (pa_cons (pv 2) pa_nil))))) (pss_one (ps_if (pt_cmpR op_eq (pv 0) pe_int (nomark _)) (pss_one (ps_expr (pe_dfSK XD_crowd_in_first tk ["j", "crowds"] (fun | [a0, a1] => [a1, a0] | l => l) (hr.mono (by decide)) (by rfl) (pk_cons (pv 2) (pk_cons (pv 1) pk_nil)) (fun _ _ _ _ _ _ ws hl => match ws, hl with | [_, _], _ => rfl) (fun r => match r with | .nil => .nil | .cons x0 .nil => .cons x0 .nil | .cons x0 (.cons x1 .nil) => .cons x1 (.cons x0 .nil) | .cons x0 (.cons x1 (.cons x2 r)) => .cons x0 (.cons x1 (.cons x2 r)))))) (pss_one (ps_expr (pe_dfSK XD_room_of tk ["m", "crowds"] (fun | [a0, a1] => [a1, a0] | l => l) (hr.mono (by decide)) (by rfl) (pk_cons (pv 2) (pk_cons (pv 1) pk_nil)) (fun _ _ _ _ _ _ ws hl => match ws, hl with | [_, _], _ => rfl) (fun r => match r with | .nil => .nil | .cons x0 .nil => .cons x0 .nil | .cons x0 (.cons x1 .nil) => .cons x1 (.cons x0 .nil) | .cons x0 (.cons x1 (.cons x2 r)) => .cons x0 (.cons x1 (.cons x2 r))))))))))))))) (fun a oe cls d pn hz hf => (pss_one (ps_set (i := 3) nd rfl (.inl rfl) (pv 4)))))
    (pss_one (ps_ret (pe_ifExp (pt_cmpR op_isN (pv 3) pe_non (nomark _)) (pe_tup (pa_cons pe_str (pa_cons pe_non pa_nil))) (pe_df D__law_kind (hr.mono (by decide)) (by rfl) (pa_cons (pv 3) pa_nil))))))), ?_⟩
    dsimp only [gName]
    have hl' : cs.length ≤ 1000 := by omega
    refine' with_key (σ := [some (.int door), some (.ref a), some (.int n), some .non, none]) (Pk := fun c d H1 => ∃ (C : Addr) (b0 b1 b2 : Bool) (v : V) (z : Dv) (dx : Addr), c = .ref C ∧ d = some dx ∧ KdC K C0 CC CS CG CR CT C b0 b1 b2 ∧ (∃ x fI, Own K mg x C fI) ∧ Same H H1 ∧ H1 dx = some (.xd [(("what" : Str), v)]) ∧ z.is H1 v ∧ D = (wC b0 b1, z)) (fun key => ?_) (fun c d H1 hP => ?_)
    rotate_left
    · have bad : ∀ i, FirstOff cs i → D = (("crowd" : Str), .num (i : Nat)) → ∀ H' d, Same H H' → H' d = some (.xd [(("what" : Str), .int (i : Nat))]) → _ := fun i hb hD H' d s1 e => key (.ref CC) (some d) H' ⟨CC, true, false, false, _, .num (i : Nat), d, rfl, rfl, KC, OC, s1, e, rfl, hD⟩
      have fin : D = (("none" : Str), .non) → ∀ H1, Same H H1 → ∀ t, H1 t = none → Q (.ref t) (upd H1 t (.tup [.str "none", .non])) := fun hD H1 s1 t nt => q _ (.ref t) (s1.trans (same_new nt)) (by rw [hD]; exact ⟨t, _, rfl, upd_same, rfl⟩)
      have hw : door = 0 ∨ door = 1 ∨ door = 2 ∨ door = 3 ∨ door = 4 := by omega
      rcases hw with rfl | rfl | rfl | rfl | rfl
      · refine ⟨_, rfl, rfl, _, rfl, iteT ⟨.ref a, rfl, ?_⟩⟩
        rcases hD with ⟨i, hb, hD⟩ | ⟨hC, ⟨_, hD⟩ | ⟨z, _⟩ | ⟨z, _⟩⟩
        · exact .inr ⟨BB, a, ts, cs, i, [], rfl, rfl, hG, hl', hb, bad i hb hD⟩
        · exact .inl ⟨BB, a, ts, cs, rfl, hG, hC, hc, hl, fun H' o us R s1 _ _ _ => ⟨.non, rfl, rfl, _, rfl, iteT ⟨(by show 2 ≤ sizeLine; decide), fun t nt => fin hD H' s1 t nt⟩⟩⟩
        · omega
        · omega
      · refine ⟨_, rfl, rfl, _, rfl, iteX (by rfl) ⟨_, rfl, rfl, _, rfl, iteT ⟨.ref a, rfl, .int n, rfl, ?_⟩⟩⟩
        rcases hD with ⟨i, hb, hD⟩ | ⟨hC, ⟨z, _⟩ | ⟨_, ⟨hneg, hD⟩ | ⟨hpos, hD⟩⟩ | ⟨z, _⟩⟩
        · exact .inr (.inl ⟨BB, a, ts, cs, i, [.int n], rfl, rfl, hG, hl', hb, bad i hb hD⟩)
        · omega
        · exact .inr (.inr ⟨BB, a, ts, cs, n, rfl, hG, hC, hc, hl, hneg, hn, fun H' d s1 e => key (.ref CS) (some d) H' ⟨CS, false, true, false, _, .num n, d, rfl, rfl, KS, OS, s1, e, rfl, hD⟩⟩)
        · exact .inl ⟨BB, a, ts, cs, n, rfl, hG, hC, hc, hl, hpos, hn2, fun H' s1 => ⟨.non, rfl, rfl, _, rfl, iteT ⟨(by show 2 ≤ sizeLine; decide), fun t nt => fin hD H' s1 t nt⟩⟩⟩
        · omega
      · refine ⟨_, rfl, rfl, _, rfl, iteX (by rfl) ⟨_, rfl, rfl, _, rfl, iteX (by rfl) ⟨_, rfl, rfl, _, rfl, iteT ⟨.ref a, rfl, .int n, rfl, ?_⟩⟩⟩⟩
        rcases hD with ⟨i, hb, hD⟩ | ⟨hC, ⟨z, _⟩ | ⟨z, _⟩ | ⟨_, ⟨hout, hD⟩ | ⟨h1, h2, hD⟩⟩⟩
        · exact .inr (.inl ⟨BB, a, ts, cs, i, [.int n], rfl, rfl, hG, hl', hb, bad i hb hD⟩)
        · omega
        · omega
        · exact .inr (.inr ⟨BB, a, ts, cs, n, rfl, hG, hC, hc, hl, hout, hn, fun H' d s1 e => key (.ref CG) (some d) H' ⟨CG, false, false, true, _, .num n, d, rfl, rfl, KG, OG, s1, e, rfl, hD⟩⟩)
        · exact .inl ⟨BB, a, ts, cs, n, rfl, hG, hC, hc, hl, h1, h2, fun H' s1 => ⟨.non, rfl, rfl, _, rfl, iteT ⟨(by show 2 ≤ sizeLine; decide), fun t nt => fin hD H' s1 t nt⟩⟩⟩
      · refine ⟨_, rfl, rfl, _, rfl, iteX (by rfl) ⟨_, rfl, rfl, _, rfl, iteX (by rfl) ⟨_, rfl, rfl, _, rfl, iteX (by rfl) ⟨_, rfl, rfl, _, rfl, iteT ⟨.int n, rfl, .ref a, rfl, rfl, ?_⟩⟩⟩⟩⟩
        rcases hD with ⟨i, hb, hD⟩ | ⟨hC, ⟨z, _⟩ | ⟨_, ⟨hneg, hD⟩ | ⟨hpos, hD⟩⟩ | ⟨z, _⟩⟩
        · exact .inr (.inl ⟨BB, a, ts, cs, i, [.int n], rfl, rfl, hG, hl', hb, bad i hb hD⟩)
        · omega
        · exact .inr (.inr ⟨BB, a, ts, cs, n, rfl, hG, hC, hc, hl, hneg, hn, fun H' d s1 e => key (.ref CS) (some d) H' ⟨CS, false, true, false, _, .num n, d, rfl, rfl, KS, OS, s1, e, rfl, hD⟩⟩)
        · exact .inl ⟨BB, a, ts, cs, n, rfl, hG, hC, hc, hl, hpos, hn2, fun H' s1 => ⟨.non, rfl, rfl, _, rfl, iteT ⟨(by show 2 ≤ sizeLine; decide), fun t nt => fin hD H' s1 t nt⟩⟩⟩
        · omega
      · refine ⟨_, rfl, rfl, _, rfl, iteX (by rfl) ⟨_, rfl, rfl, _, rfl, iteX (by rfl) ⟨_, rfl, rfl, _, rfl, iteX (by rfl) ⟨_, rfl, rfl, _, rfl, iteX (by rfl) ⟨.int n, rfl, .ref a, rfl, rfl, ?_⟩⟩⟩⟩⟩
        rcases hD with ⟨i, hb, hD⟩ | ⟨hC, ⟨z, _⟩ | ⟨z, _⟩ | ⟨_, ⟨hout, hD⟩ | ⟨h1, h2, hD⟩⟩⟩
        · exact .inr (.inl ⟨BB, a, ts, cs, i, [.int n], rfl, rfl, hG, hl', hb, bad i hb hD⟩)
        · omega
        · omega
        · exact .inr (.inr ⟨BB, a, ts, cs, n, rfl, hG, hC, hc, hl, hout, hn, fun H' d s1 e => key (.ref CG) (some d) H' ⟨CG, false, false, true, _, .num n, d, rfl, rfl, KG, OG, s1, e, rfl, hD⟩⟩)
        · exact .inl ⟨BB, a, ts, cs, n, rfl, hG, hC, hc, hl, h1, h2, fun H' s1 => ⟨.non, rfl, rfl, _, rfl, iteT ⟨(by show 2 ≤ sizeLine; decide), fun t nt => fin hD H' s1 t nt⟩⟩⟩
    · obtain ⟨C, b0, b1, b2, v, z, dx, rfl, rfl, kd, ⟨xn, fI, hO⟩, s1, ed, hz, hD⟩ := hP
      refine ⟨kd.te, fun a0 na => ⟨.ref a0, rfl, ?_⟩⟩
      have sx := same_new (o := Exc a0 (.ref C) (some dx)) na
      refine ⟨.ref a0, rfl, rfl, _, rfl, iteX (by rfl) ⟨.ref a0, rfl, a0, C, v, z, b0, b1, b2, rfl, ⟨xn, fI, dx, upd_same, sx _ _ ed, hO⟩, kd, hz.same sx, fun H' w s' hw => q H' w (s1.trans (sx.trans s')) (by rw [hD]; exact hw)⟩⟩
end
end El
namespace El
open PySem PySem.Spec PyProof.Rows L2
section
variable {P : Program} {w : World} {K : PySem.W.Frag} {mg : Str → Option Value} {base : Heap}
abbrev s__law_due : Stmt := topS 26
abbrev N__law_due : List Str := ["door", "lot", "number", "bad", "at", "count", "bears"]
abbrev P__law_due : List Str := ["door", "lot", "number"]
theorem sc__law_due : FnScope N__law_due P__law_due (defScope s__law_due) := ⟨rfl, rfl, rfl, by decide +kernel, rfl, by decide +kernel, by decide +kernel⟩
def sp__law_due : Sp := fun vs H Q _ => ∃ (BB : Addr → Prop) (a : Addr) (door n : Int) (ts : List Addr) (cs : List (Int × Int)), vs = [.int door, .ref a, .int n] ∧ 0 ≤ door ∧ door ≤ 4 ∧ GsAt H BB a ts cs ∧ cs.length ≤ 1000 ∧
  ∀ H' v D, Same H H' → DvAt H' v (some D) → DueC door cs n D → Q v H'
theorem ok__law_due (A : At K mg "_law_due" P__law_due s__law_due) (B : Bi mg) : Df P w K mg base 1 "_law_due" P__law_due s__law_due sp__law_due := by
  refine A.df fun f fd F => F.ok sc__law_due (fun vs H Q E h => ?_) (fun cdv AA outer s H vs Q E hr h => ?_)
  · obtain ⟨_, _, _, _, _, _, rfl, _⟩ := h
    rfl
  · obtain ⟨BB, a, door, n, ts, cs, rfl, hd0, hd4, hG, hl, q⟩ := h
    have nd := sc__law_due.nd
    refine ⟨_, (pss_cons (ps_setLc (i := 3) (own := [("at", 4)]) rfl nd rfl rfl (sw_true rfl rfl rfl (by decide +kernel)) (pi_range1 (by rfl) B.range (pa_cons (pe_callB call_len_seq (by rfl) B.len PySem.boot_len (pa_cons (pv 1) pa_nil)) pa_nil)) (blkOk_by (N := N__law_due) (sc := defScope s__law_due) (by decide +kernel)) (fun _ _ _ _ _ => (pg_name (i := 4) nd rfl (.inl rfl))) (fun _ _ _ _ _ => (pts_one (PW.pt (pw_or (pt_cmpR op_lt (pe_ix (ixtK K) (pe_ix (ixlK K) (pv 1) (pv 4) (fun _ _ => rfl)) pe_int (fun _ _ => rfl)) pe_int (nomark _)) (pw_or1 (pt_cmpR op_lt (pe_ix (ixtK K) (pe_ix (ixlK K) (pv 1) (pv 4) (fun _ _ => rfl)) pe_int (fun _ _ => rfl)) pe_int (nomark _))))))) (fun _ _ _ _ _ => (pv 4)))
    (pss_cons (ps_if (pt_cmpR (op_neD hr.units) (pv 3) (pe_lst pa_nil) (nomark _)) (pss_one (ps_ret (pe_tup (pa_cons pe_str (pa_cons (pe_ix ix_list (pv 3) pe_int (fun _ _ => rfl)) pa_nil))))) pss_nil)
    (pss_cons (ps_if (PW.pt (pw_and (pt_cmpR op_in_seq (pv 0) (pe_tup (pa_cons pe_int (pa_cons pe_int pa_nil))) (by rfl)) (pw_and1 (pt_cmpR op_lt (pv 2) pe_int (nomark _))))) (pss_one (ps_ret (pe_tup (pa_cons pe_str (pa_cons (pv 2) pa_nil))))) pss_nil)
    (pss_cons (ps_if (PW.pt (pw_and (pt_cmpR op_in_seq (pv 0) (pe_tup (pa_cons pe_int (pa_cons pe_int pa_nil))) (by rfl)) (pw_and1 (pt_not (pt_chain op_le op_le pe_int (pv 2) (pe_callB (cr_sum rfl) (by rfl) B.sum (by decide +kernel) (pa_cons (pe_lc (own := [("count", 5), ("bears", 6)]) (tt := tYes) rfl nd (pi_list (pv 1)) (blkOk_by (N := N__law_due) (sc := defScope s__law_due) (by decide +kernel)) (fun _ _ _ _ _ => (pgTupK K 2 (by rfl) (pgs_cons (pg_name (i := 5) nd rfl (.inl rfl)) (pgs_cons (pg_name (i := 6) nd rfl (.inl rfl)) pgs_nil)))) (fun _ _ _ _ _ => pts_nil) (fun _ _ _ _ _ => (pv 5))) pa_nil))))))) (pss_one (ps_ret (pe_tup (pa_cons pe_str (pa_cons (pv 2) pa_nil))))) pss_nil)
    (pss_one (ps_ret (pe_tup (pa_cons pe_str (pa_cons pe_non pa_nil))))))))), ?_⟩
    refine ⟨.ref a, rfl, a, _, rfl, .inl hG.seq, _, rfl, by rw [List.length_map, hG.len]; omega, by rw [List.length_map, hG.len]; omega, fun D nD => ?_⟩
    rw [List.length_map, hG.len, Int.toNat_natCast]
    refine lc_it (walk_range (n := cs.length)) (fun k H2 => Same H H2 ∧ ∃ L : List Int, H2 D = some (.lst (L.map V.int)) ∧ L.length ≤ k ∧ ((L = [] ∧ ∀ (j : Nat) (c : Int × Int), j < k → cs[j]? = some c → Fine1 c) ∨ ∃ (i : Nat) (l : List Int), L = (i : Int) :: l ∧ FirstOff cs i)) ⟨same_new nD, [], upd_same, Nat.le_refl _, .inl ⟨rfl, fun j c h => absurd h (Nat.not_lt_zero _)⟩⟩ (fun _ _ _ _ => trivial) (fun k x H2 H3 hk hW hY => ?_) (fun H2 hW => ?_)
    · obtain ⟨sm, L, eL, hLl, hL⟩ := hW
      obtain ⟨rfl, hx⟩ := hY
      obtain rfl := rg0 hx
      obtain ⟨c, ec⟩ := at_some hk
      obtain ⟨t, et1, et⟩ := (hG.same sm).at_ ec
      have put : ¬ Fine1 c → ∃ L' : List Int, upd H3 D (.lst (L.map V.int ++ [.int (k : Int)])) D = some (.lst (L'.map V.int)) ∧ L'.length ≤ k + 1 ∧ ((L' = [] ∧ ∀ (j : Nat) (c : Int × Int), j < k + 1 → cs[j]? = some c → Fine1 c) ∨ ∃ (i : Nat) (l : List Int), L' = (i : Int) :: l ∧ FirstOff cs i) := fun h => by
        refine ⟨L ++ [(k : Int)], by rw [upd_same, List.map_append]; rfl, by rw [List.length_append]; show L.length + 1 ≤ k + 1; omega, .inr ?_⟩
        rcases hL with ⟨rfl, ha⟩ | ⟨i, l, rfl, hi⟩
        · exact ⟨k, [], rfl, ⟨c, ec, h⟩, ha⟩
        · exact ⟨i, l ++ [(k : Int)], rfl, hi⟩
      have keep : Fine1 c → ∃ L' : List Int, H3 D = some (.lst (L'.map V.int)) ∧ L'.length ≤ k + 1 ∧ ((L' = [] ∧ ∀ (j : Nat) (c : Int × Int), j < k + 1 → cs[j]? = some c → Fine1 c) ∨ ∃ (i : Nat) (l : List Int), L' = (i : Int) :: l ∧ FirstOff cs i) := fun h => by
        refine ⟨L, eL, by omega, ?_⟩
        rcases hL with ⟨rfl, ha⟩ | hi
        · refine .inl ⟨rfl, fun j d hj e => ?_⟩
          by_cases z : j < k
          · exact ha j d z e
          · obtain rfl : j = k := by omega
            obtain rfl := Option.some.inj (ec.symm.trans e)
            exact h
        · exact .inr hi
      have hsz : (L.map V.int).length < sizeLine := ils (by rw [List.length_map]; omega)
      refine ⟨rfl, .ref a, rfl, .int (k : Int), rfl, a, _, _, _, rfl, rfl, (hG.same sm).seq, atI_nat et1, ?_⟩
      refine ⟨t, _, 0, .int c.1, rfl, rfl, SqT.of et, atI_nat (j := 0) rfl, _, _, rfl, rfl, _, rfl, ite2 (fun e => ?_) (fun e => ?_)⟩
      · have e := of_decide_eq_true e
        exact iteT ⟨_, rfl, _, eL, hsz, Same.mut sm nD, put fun z => by have := z.1; omega⟩
      · have e : ¬ c.1 < 1 := fun z => e (decide_eq_true z)
        refine ⟨.ref a, rfl, .int (k : Int), rfl, a, _, _, _, rfl, rfl, (hG.same sm).seq, atI_nat et1, ?_⟩
        refine ⟨t, _, 1, .int c.2, rfl, rfl, SqT.of et, atI_nat (j := 1) rfl, _, _, rfl, rfl, _, rfl, ite2 (fun e' => ?_) (fun e' => ?_)⟩
        · have e' := of_decide_eq_true e'
          exact ⟨_, rfl, _, eL, hsz, Same.mut sm nD, put fun z => by have := z.2; omega⟩
        · have e' : ¬ c.2 < 0 := fun z => e' (decide_eq_true z)
          exact ⟨sm, keep ⟨by omega, by omega⟩⟩
    obtain ⟨sm, L, eL, hLl, hL⟩ := hW
    dsimp only [gName]
    -- if bad != []
    refine ⟨.ref D, rfl, Nat.zero_le _, fun u nu => ?_⟩
    have su := same_new (o := .lst []) nu
    refine ⟨dInts L, dInts [], Dp.ints (su _ _ eL), Dp.ints (ns := []) upd_same, (Oks.ints _).shaped, (Oks.ints _).shaped, _, rfl, ?_⟩
    rw [eqv_nil]
    have s2 := sm.trans su
    have eL2 := su _ _ eL
    revert s2 eL2
    generalize upd H2 u (.lst []) = H3
    intro s2 eL2
    rcases hL with ⟨rfl, ha⟩ | ⟨i, l, rfl, hi⟩
    · refine iteF ?_
      have hC : Crw cs := fun c m => by
        obtain ⟨j, e⟩ := List.mem_iff_getElem?.mp m
        exact ha j c (at_lt e) e
      have plain : (∀ H4, Same H H4 → ∀ t, H4 t = none → ((door = 0 ∨ ((door = 1 ∨ door = 3) ∧ 0 ≤ n) ∨ ((door = 2 ∨ door = 4) ∧ 1 ≤ n ∧ n ≤ allOf cs))) → Q (.ref t) (upd H4 t (.tup [.str "none", .non]))) := fun H4 s4 t nt h => by
        refine q _ (.ref t) (("none" : Str), .non) (s4.trans (same_new nt)) ⟨t, _, rfl, upd_same, rfl⟩ (.inr ⟨hC, ?_⟩)
        rcases h with h | ⟨h, h0⟩ | ⟨h, h1, h2⟩
        · exact .inl ⟨h, rfl⟩
        · exact .inr (.inl ⟨h, .inr ⟨h0, rfl⟩⟩)
        · exact .inr (.inr ⟨h, .inr ⟨h1, h2, rfl⟩⟩)
      -- if door in (1, 3) and number < 0
      dsimp only [tNext]
      refine seq_to (fun σ H4 => σ = [some (.int door), some (.ref a), some (.int n), some (.ref D), none, none, none] ∧ Same H H4 ∧ ((door = 1 ∨ door = 3) → 0 ≤ n)) (fun X hX => ?_) (fun σ H4 hE => ?_)
      · refine ⟨.int door, rfl, (by show 2 ≤ sizeLine; decide), fun u2 nu2 => ?_⟩
        have s3 := s2.trans (same_new (o := .tup [.int 1, .int 3]) nu2)
        refine ⟨u2, _, rfl, .inr (SqT.of upd_same), rfl, rfl, _, rfl, ?_⟩
        show if inV (.int door) (([1, 3] : List Int).map V.int) = true then _ else _
        rw [inV_ints]
        refine ite2 (fun e => ?_) (fun e => hX _ _ ⟨rfl, s3, fun z => (e (decide_eq_true (by rcases z with rfl | rfl <;> simp))).elim⟩)
        have hd : door = 1 ∨ door = 3 := by simpa using of_decide_eq_true e
        refine ⟨.int n, rfl, _, _, rfl, rfl, _, rfl, ite2 (fun e2 => ?_) (fun e2 => hX _ _ ⟨rfl, s3, fun _ => Int.not_lt.mp fun z => e2 (decide_eq_true z)⟩)⟩
        refine ⟨.int n, rfl, (by show 2 ≤ sizeLine; decide), fun t nt => ?_⟩
        exact q _ (.ref t) (("rooms" : Str), .num n) (s3.trans (same_new nt)) ⟨t, _, rfl, upd_same, rfl⟩ (.inr ⟨hC, .inr (.inl ⟨hd, .inl ⟨of_decide_eq_true e2, rfl⟩⟩)⟩)
      · obtain ⟨rfl, s4, h13⟩ := hE
        -- if door in (2, 4) and not ..
        refine seq_to (fun σ H5 => σ = [some (.int door), some (.ref a), some (.int n), some (.ref D), none, none, none] ∧ Same H H5 ∧ ((door = 2 ∨ door = 4) → 1 ≤ n ∧ n ≤ allOf cs)) (fun X hX => ?_) (fun σ H5 hE => ?_)
        · refine ⟨.int door, rfl, (by show 2 ≤ sizeLine; decide), fun u2 nu2 => ?_⟩
          have s5 := s4.trans (same_new (o := .tup [.int 2, .int 4]) nu2)
          refine ⟨u2, _, rfl, .inr (SqT.of upd_same), rfl, rfl, _, rfl, ?_⟩
          show if inV (.int door) (([2, 4] : List Int).map V.int) = true then _ else _
          rw [inV_ints]
          refine ite2 (fun e => ?_) (fun e => hX _ _ ⟨rfl, s5, fun z => (e (decide_eq_true (by rcases z with rfl | rfl <;> simp))).elim⟩)
          have hd : door = 2 ∨ door = 4 := by simpa using of_decide_eq_true e
          have told : (n < 1 ∨ allOf cs < n) → ∀ H6, Same H H6 → ∀ t, H6 t = none → Q (.ref t) (upd H6 t (.tup [.str "guest", .int n])) := fun h H6 s6 t nt =>
            q _ (.ref t) (("guest" : Str), .num n) (s6.trans (same_new nt)) ⟨t, _, rfl, upd_same, rfl⟩ (.inr ⟨hC, .inr (.inr ⟨hd, .inl ⟨h, rfl⟩⟩)⟩)
          revert s5
          generalize upd H4 u2 (.tup [.int 2, .int 4]) = H5
          intro s5
          refine ⟨.int n, rfl, _, _, rfl, rfl, _, rfl, ite2 (fun e1 => ?_) (fun e1 => ?_)⟩
          · have h1 : 1 ≤ n := of_decide_eq_true e1
            refine ⟨.ref a, rfl, a, rfl, ⟨_, (hG.same s5).seq⟩, fun D2 nD2 => ?_⟩
            refine lc_it (walk_list (xs := ts.map V.ref)) (fun i H6 => Same H5 H6 ∧ H6 D2 = some (.lst (((cs.take i).map (·.1)).map V.int))) ⟨same_new nD2, upd_same⟩ (fun i H6 _ hW => ((hG.same s5).same hW.1).seq) (fun i x H6 H7 hi hW hY => ?_) (fun H6 hW => ?_)
            · obtain ⟨s6, e6⟩ := hW
              obtain ⟨rfl, hx⟩ := hY
              obtain ⟨u, z, rfl, ez, eu⟩ := ((hG.same s5).same s6).get hx
              refine ⟨u, _, rfl, SqT.of eu, rfl, .int z.1, _, rfl, .int z.2, _, rfl, rfl, rfl, .int z.1, rfl, _, e6, ils (by rw [List.length_map, List.length_map, List.length_take]; omega), Same.mut s6 nD2, ?_⟩
              rw [upd_same, take_snoc ez, List.map_append, List.map_append]
              rfl
            obtain ⟨s6, e6⟩ := hW
            rw [List.length_map, hG.len, take_full] at e6
            refine ⟨D2, _, rfl, SqL.of e6, _, _, rfl, rfl, _, rfl, ?_⟩
            show if (!decide (n ≤ allOf cs)) = true then _ else _
            by_cases h2 : n ≤ allOf cs
            · rw [decide_eq_true h2]
              exact iteF (hX _ _ ⟨rfl, s5.trans s6, fun _ => ⟨h1, h2⟩⟩)
            · rw [decide_eq_false h2]
              exact iteT ⟨.int n, rfl, (by show 2 ≤ sizeLine; decide), fun t nt => told (.inr (by omega)) _ (s5.trans s6) t nt⟩
          · have h1 : ¬ 1 ≤ n := fun z => e1 (decide_eq_true z)
            refine ⟨_, rfl, iteT ⟨.int n, rfl, (by show 2 ≤ sizeLine; decide), fun t nt => told (.inl (by omega)) _ s5 t nt⟩⟩
        · obtain ⟨rfl, s5, h24⟩ := hE
          refine ⟨(by show 2 ≤ sizeLine; decide), fun t nt => plain H5 s5 t nt ?_⟩
          have hw : door = 0 ∨ (door = 1 ∨ door = 3) ∨ (door = 2 ∨ door = 4) := by omega
          rcases hw with h | h | h
          · exact .inl h
          · exact .inr (.inl ⟨h, h13 h⟩)
          · exact .inr (.inr ⟨h, h24 h⟩)
    · refine iteT ⟨.ref D, rfl, D, _, _, .int (i : Int), rfl, rfl, SqL.of eL2, atI_nat (j := 0) rfl, (by show 2 ≤ sizeLine; decide), fun t nt => ?_⟩
      exact q _ (.ref t) (("crowd" : Str), .num (i : Nat)) (s2.trans (same_new nt)) ⟨t, _, rfl, upd_same, rfl⟩ (.inl ⟨i, hi, rfl⟩)
end
end El
namespace El
open PySem PySem.Spec PyProof.Rows L2
/-- no count and no patience out of all measure -/
def Lim (cs : List (Int × Int)) : Prop := ∀ c ∈ cs, c.1 < 2 ^ 150 ∧ c.2 < 2 ^ 150 ∧ -(2 ^ 150) < c.1 ∧ -(2 ^ 150) < c.2
section
variable {P : Program} {w : World} {K : PySem.W.Frag} {mg : Str → Option Value} {base : Heap}
abbrev s__law_bent : Stmt := topS 25
abbrev N__law_bent : List Str := ["pot", "lot", "turn", "far", "some"]
abbrev P__law_bent : List Str := ["pot", "lot"]
theorem sc__law_bent : FnScope N__law_bent P__law_bent (defScope s__law_bent) := ⟨rfl, rfl, rfl, by decide +kernel, rfl, by decide +kernel, by decide +kernel⟩
def sp__law_bent : Sp := fun vs H Q _ => ∃ (b a : Addr) (n : Nat) (ts : List Addr) (cs : List (Int × Int)), vs = [.ref b, .ref a] ∧ Pot H b n ∧ n ≤ 900000000 ∧ GsAt H (fun z => z ≠ b) a ts cs ∧ a ∉ ts ∧ cs.length ≤ 60 ∧ Lim cs ∧
  ∀ H' ts' cs', Kp (fun z => z ≠ b ∧ z ≠ a) H H' → (∀ z, H' z = none → H z = none) → Pot H' b (n + 30) → GsAt H' (fun z => z ≠ b) a ts' cs' → a ∉ ts' → cs'.length ≤ 63 → Lim cs' → Q (.ref a) H'
theorem ok__law_bent (A : At K mg "_law_bent" P__law_bent s__law_bent) (B : Bi mg) (D__law_draw : Df P w K mg base 1 "_law_draw" P__law_draw s__law_draw sp__law_draw) : Df P w K mg base 2 "_law_bent" P__law_bent s__law_bent sp__law_bent := by
  refine A.df fun f fd F => F.ok sc__law_bent (fun vs H Q E h => ?_) (fun cdv AA outer s H vs Q E hr h => ?_)
  · obtain ⟨_, _, _, _, _, rfl, _⟩ := h
    rfl
  · obtain ⟨b, a, n, ts, cs, rfl, hT, hn, hG, hno, hl, hL, q⟩ := h
    have nd := sc__law_bent.nd
    refine ⟨_, (pss_cons (ps_for PassesOwn.never rfl (pi_range1 (by rfl) B.range (pa_cons (pe_ix ix_list (pe_lst (pa_cons pe_int (pa_cons pe_int (pa_cons pe_int (pa_cons pe_int pa_nil))))) (pe_df D__law_draw (hr.mono (by decide)) (by rfl) (pa_cons (pv 0) (pa_cons pe_int pa_nil))) (fun _ _ => rfl)) pa_nil)) (pg_name (i := 2) nd rfl (.inl rfl)) (pss_cons (ps_set (i := 3) nd rfl (.inl rfl) (pe_ix ix_list (pe_lst (pa_cons pe_int (pa_cons pe_int (pa_cons (pe_op op_pow pe_int pe_int) (pa_cons (pe_op op_pow pe_int pe_int) pa_nil))))) (pe_df D__law_draw (hr.mono (by decide)) (by rfl) (pa_cons (pv 0) (pa_cons pe_int pa_nil))) (fun _ _ => rfl))) (pss_cons (ps_set (i := 4) nd rfl (.inl rfl) (pe_lst (pa_cons (pe_tup (pa_cons pe_int (pa_cons pe_int pa_nil))) (pa_cons (pe_tup (pa_cons (pe_op op_sub pe_int (pv 3)) (pa_cons pe_int pa_nil))) (pa_cons (pe_tup (pa_cons pe_int (pa_cons (pe_un un_neg pe_int) pa_nil))) (pa_cons (pe_tup (pa_cons (pv 3) (pa_cons (pe_op op_sub pe_int (pv 3)) pa_nil))) (pa_cons (pe_tup (pa_cons pe_int (pa_cons (pe_un un_neg pe_int) pa_nil))) (pa_cons (pe_tup (pa_cons (pe_un un_neg pe_int) (pa_cons (pe_op op_pow pe_int pe_int) pa_nil))) pa_nil)))))))) (pss_one (ps_expr (pe_bm PySem.F.plainAttrs_list PySem.F.slot_list_insert PySem.F.type_list_insert mt_insert (pv 1) (pa_cons (pe_df D__law_draw (hr.mono (by decide)) (by rfl) (pa_cons (pv 0) (pa_cons (pe_op op_add (pe_callB call_len_seq (by rfl) B.len PySem.boot_len (pa_cons (pv 1) pa_nil)) pe_int) pa_nil))) (pa_cons (pe_ix ix_list (pv 4) (pe_df D__law_draw (hr.mono (by decide)) (by rfl) (pa_cons (pv 0) (pa_cons pe_int pa_nil))) (fun _ _ => rfl)) pa_nil))))))))
    (pss_one (ps_ret (pv 1)))), ?_⟩
    have ab : a ≠ b := hG.ba
    -- how many
    refine ⟨(by show 4 ≤ sizeLine; decide), fun p np => ?_⟩
    have sp := same_new (o := .lst [.int 0, .int 0, .int 1, .int 3]) np
    have op := hT.off np
    refine ⟨.ref b, rfl, b, n, 4, rfl, hT.same sp, by omega, by decide, by decide, fun H1 r1 k1 T1 a1 b1 => ?_⟩
    obtain ⟨v1, hv1, m1, rfl, h1⟩ := pick4 (P := fun x => ∃ m : Nat, x = (m : Int) ∧ m ≤ 3) (a := 0) (b := 0) (c := 1) (d := 3) (r := r1) a1 b1 ⟨0, rfl, by decide⟩ ⟨0, rfl, by decide⟩ ⟨1, rfl, by decide⟩ ⟨3, rfl, by decide⟩
    refine ⟨p, _, _, _, rfl, rfl, SqL.of (k1 _ _ op upd_same), hv1, _, rfl, by omega, by omega, ?_⟩
    have kp1 : Kp (fun z => z ≠ b ∧ z ≠ a) H H1 := (Kp.of sp).trans (k1.weak fun _ z => z.1)
    have v1' : ∀ z, H1 z = none → H z = none := fun z e => sp.free (k1.none (T1.off e) e)
    have G1 := (hG.same sp).keep k1
    rw [Int.toNat_natCast]
    refine for_it (walk_range (n := m1)) (fun i σ H2 => ∃ y2 y3 y4 ts cs, σ = [some (.ref b), some (.ref a), y2, y3, y4] ∧ Kp (fun z => z ≠ b ∧ z ≠ a) H H2 ∧ (∀ z, H2 z = none → H z = none) ∧ Pot H2 b (n + 1 + 3 * i) ∧ GsAt H2 (fun z => z ≠ b) a ts cs ∧ a ∉ ts ∧ cs.length ≤ 60 + i ∧ Lim cs)
      ⟨_, _, _, ts, cs, rfl, kp1, v1', T1, G1, hno, by omega, hL⟩ (fun _ _ _ _ _ => trivial) (fun i x σ H2 H3 hi hW hY => ?_) (fun σ H2 hW => ?_)
    · obtain ⟨y2, y3, y4, ts, cs, rfl, kp, vv, T2, G2, no2, l2, L2'⟩ := hW
      obtain ⟨rfl, rfl⟩ := hY
      -- far
      refine ⟨_, _, rfl, rfl, ⟨by decide, by decide, by decide⟩, _, _, rfl, rfl, ⟨by decide, by decide, by decide⟩, (by show 4 ≤ sizeLine; decide), fun p np => ?_⟩
      have sp := same_new (o := .lst [.int 1, .int 7, .int (10 ^ Int.toNat 9), .int (10 ^ Int.toNat 29)]) np
      have op := T2.off np
      refine ⟨.ref b, rfl, b, _, 4, rfl, T2.same sp, by omega, by decide, by decide, fun H4 r4 k4 T4 a4 b4 => ?_⟩
      obtain ⟨far, hv4, hf0, hf1⟩ := pick4 (P := fun x => 0 < x ∧ x ≤ 100000000000000000000000000000) (a := 1) (b := 7) (c := 10 ^ Int.toNat 9) (d := 10 ^ Int.toNat 29) (r := r4) a4 b4 (by decide) (by decide) (by decide) (by decide)
      refine ⟨p, _, _, _, rfl, rfl, SqL.of (k4 _ _ op upd_same), hv4, ?_⟩
      have kp4 : Kp (fun z => z ≠ b ∧ z ≠ a) H H4 := kp.trans ((Kp.of sp).trans (k4.weak fun _ z => z.1))
      have v4 : ∀ z, H4 z = none → H z = none := fun z e => vv z (sp.free (k4.none (T4.off e) e))
      have G4 := (G2.same sp).keep k4
      clear sp op k4 G2 kp vv T2 hv4 np
      dsimp only [gName]
      -- some
      refine ⟨(by show 2 ≤ sizeLine; decide), fun u1 n1 => ?_⟩
      have s1 := same_new (o := .tup [.int 0, .int 3]) n1
      have e1 : upd H4 u1 (.tup [.int 0, .int 3]) u1 = some (.tup [.int 0, .int 3]) := upd_same
      revert s1 e1
      generalize upd H4 u1 (.tup [.int 0, .int 3]) = H5
      intro s1 e1
      refine ⟨.int far, rfl, _, _, rfl, rfl, (by show 2 ≤ sizeLine; decide), fun u2 n2 => ?_⟩
      have s2 := same_new (o := .tup [.int (0 - far), .int 0]) n2
      have e2 : upd H5 u2 (.tup [.int (0 - far), .int 0]) u2 = some (.tup [.int (0 - far), .int 0]) := upd_same
      have e1 := s2 _ _ e1
      have s2 := s1.trans s2
      revert e1 s2 e2
      generalize upd H5 u2 (.tup [.int (0 - far), .int 0]) = H6
      intro e2 e1 s2
      refine ⟨_, rfl, (by show 2 ≤ sizeLine; decide), fun u3 n3 => ?_⟩
      have s3 := same_new (o := .tup [.int 2, .int (-1)]) n3
      have e3 : upd H6 u3 (.tup [.int 2, .int (-1)]) u3 = some (.tup [.int 2, .int (-1)]) := upd_same
      have e1 := s3 _ _ e1
      have e2 := s3 _ _ e2
      have s3 := s2.trans s3
      revert e1 e2 s3 e3
      generalize upd H6 u3 (.tup [.int 2, .int (-1)]) = H7
      intro e3 e1 e2 s3
      refine ⟨.int far, rfl, .int far, rfl, _, _, rfl, rfl, (by show 2 ≤ sizeLine; decide), fun u4 n4 => ?_⟩
      have s4 := same_new (o := .tup [.int far, .int (0 - far)]) n4
      have e4 : upd H7 u4 (.tup [.int far, .int (0 - far)]) u4 = some (.tup [.int far, .int (0 - far)]) := upd_same
      have e1 := s4 _ _ e1
      have e2 := s4 _ _ e2
      have e3 := s4 _ _ e3
      have s4 := s3.trans s4
      revert e1 e2 e3 s4 e4
      generalize upd H7 u4 (.tup [.int far, .int (0 - far)]) = H8
      intro e4 e1 e2 e3 s4
      refine ⟨_, rfl, (by show 2 ≤ sizeLine; decide), fun u5 n5 => ?_⟩
      have s5 := same_new (o := .tup [.int 0, .int (-1)]) n5
      have e5 : upd H8 u5 (.tup [.int 0, .int (-1)]) u5 = some (.tup [.int 0, .int (-1)]) := upd_same
      have e1 := s5 _ _ e1
      have e2 := s5 _ _ e2
      have e3 := s5 _ _ e3
      have e4 := s5 _ _ e4
      have s5 := s4.trans s5
      revert e1 e2 e3 e4 s5 e5
      generalize upd H8 u5 (.tup [.int 0, .int (-1)]) = H9
      intro e5 e1 e2 e3 e4 s5
      refine ⟨_, rfl, _, _, rfl, rfl, ⟨by decide, by decide, by decide⟩, (by show 2 ≤ sizeLine; decide), fun u6 n6 => ⟨(by show 6 ≤ sizeLine; decide), fun l nl => ?_⟩⟩
      have s6 := same_new (o := .tup [.int (-1), .int (10 ^ Int.toNat 29)]) n6
      have e6 : upd H9 u6 (.tup [.int (-1), .int (10 ^ Int.toNat 29)]) u6 = some (.tup [.int (-1), .int (10 ^ Int.toNat 29)]) := upd_same
      have s7 := same_new (o := .lst [.ref u1, .ref u2, .ref u3, .ref u4, .ref u5, .ref u6]) nl
      have e1 := s7 _ _ (s6 _ _ e1)
      have e2 := s7 _ _ (s6 _ _ e2)
      have e3 := s7 _ _ (s6 _ _ e3)
      have e4 := s7 _ _ (s6 _ _ e4)
      have e5 := s7 _ _ (s6 _ _ e5)
      have e6 := s7 _ _ e6
      have el : upd (upd H9 u6 (.tup [.int (-1), .int (10 ^ Int.toNat 29)])) l (.lst [.ref u1, .ref u2, .ref u3, .ref u4, .ref u5, .ref u6]) l = some (.lst [.ref u1, .ref u2, .ref u3, .ref u4, .ref u5, .ref u6]) := upd_same
      have s7 := s5.trans (s6.trans s7)
      have all : ∀ v ∈ ([V.ref u1, .ref u2, .ref u3, .ref u4, .ref u5, .ref u6] : List V), ∃ (u : Addr) (g : Int × Int), v = .ref u ∧ upd (upd H9 u6 (.tup [.int (-1), .int (10 ^ Int.toNat 29)])) l (.lst [.ref u1, .ref u2, .ref u3, .ref u4, .ref u5, .ref u6]) u = some (.tup [.int g.1, .int g.2]) ∧ (g.1 < 2 ^ 150 ∧ g.2 < 2 ^ 150 ∧ -(2 ^ 150) < g.1 ∧ -(2 ^ 150) < g.2) := fun v mv => by
        have hb : (100000000000000000000000000000 : Int) < 2 ^ 150 := by decide
        rcases List.mem_cons.mp mv with rfl | mv
        · exact ⟨u1, (0, 3), rfl, e1, by decide⟩
        rcases List.mem_cons.mp mv with rfl | mv
        · exact ⟨u2, (0 - far, 0), rfl, e2, by show 0 - far < 2 ^ 150; omega, by show (0 : Int) < 2 ^ 150; decide, by show -(2 ^ 150) < 0 - far; omega, by show -(2 ^ 150) < (0 : Int); decide⟩
        rcases List.mem_cons.mp mv with rfl | mv
        · exact ⟨u3, (2, -1), rfl, e3, by decide⟩
        rcases List.mem_cons.mp mv with rfl | mv
        · exact ⟨u4, (far, 0 - far), rfl, e4, by show far < 2 ^ 150; omega, by show 0 - far < 2 ^ 150; omega, by show -(2 ^ 150) < far; omega, by show -(2 ^ 150) < 0 - far; omega⟩
        rcases List.mem_cons.mp mv with rfl | mv
        · exact ⟨u5, (0, -1), rfl, e5, by decide⟩
        · rw [List.mem_singleton.mp mv]
          exact ⟨u6, (-1, 10 ^ Int.toNat 29), rfl, e6, by decide, by decide, by decide, by decide⟩
      clear e1 e2 e3 e4 e5 e6 s1 s2 s3 s4 s5 s6 n1 n2 n3 n4 n5 n6 nl
      dsimp only
      have hul : ([V.ref u1, .ref u2, .ref u3, .ref u4, .ref u5, .ref u6] : List V).length = 6 := rfl
      revert el s7 all hul
      generalize ([V.ref u1, .ref u2, .ref u3, .ref u4, .ref u5, .ref u6] : List V) = us
      generalize upd (upd H9 u6 (.tup [.int (-1), .int (10 ^ Int.toNat 29)])) l (.lst us) = H10
      intro el s7 all hul
      have G10 := G4.same s7
      have T10 := T4.same s7
      have kp10 : Kp (fun z => z ≠ b ∧ z ≠ a) H H10 := kp4.trans (.of s7)
      have v10 : ∀ z, H10 z = none → H z = none := fun z e => v4 z (s7.free e)
      have lb : l ≠ b := fun z => by
        obtain ⟨_, _, _, e, _⟩ := T10.ex
        rw [← z, el] at e
        have := congrArg List.length (HO.lst.inj (Option.some.inj e))
        rw [hul] at this
        cases this
      clear G4 T4 kp4 v4 s7
      dsimp only [gName]
      refine ⟨.ref a, rfl, .inl ⟨rfl, _, G10.seq⟩, .ref b, rfl, .ref a, rfl, a, _, rfl, .inl G10.seq, _, _, rfl, rfl, b, _, _, rfl, T10, by omega, ?_, ?_, fun H11 r11 k11 T11 a11 b11 => ?_⟩
      · rw [List.length_map, G10.len]
        omega
      · rw [List.length_map, G10.len]
        exact Int.lt_of_le_of_lt (show (cs.length : Int) + 1 ≤ 64 by omega) (by decide)
      rw [List.length_map, G10.len] at b11
      refine ⟨.ref l, rfl, .ref b, rfl, b, _, 6, rfl, T11, by omega, by decide, by decide, fun H12 r12 k12 T12 a12 b12 => ?_⟩
      obtain ⟨v, hv, mv⟩ := at_pick (xs := us) a12 (by rw [hul]; exact b12)
      obtain ⟨u, g, rfl, hu, hg⟩ := all v mv
      have k1012 := k11.trans k12
      have G12 := G10.keep k1012
      have ub : u ≠ b := fun z => by
        obtain ⟨_, _, _, e, _⟩ := T10.ex
        rw [← z, hu] at e
        cases e
      refine ⟨l, _, _, .ref u, rfl, rfl, SqL.of (k1012 _ _ lb el), hv, a, _, r11, .ref u, rfl, rfl, G12.top, ils (by rw [List.length_map, G12.len]; omega), a11, by omega, ?_⟩
      have pm : ((ts.map V.ref).take r11.toNat ++ [V.ref u] ++ (ts.map V.ref).drop r11.toNat).Perm (ts.map V.ref ++ [.ref u]) := by
        have e : ts.map V.ref ++ [V.ref u] = (ts.map V.ref).take r11.toNat ++ ((ts.map V.ref).drop r11.toNat ++ [V.ref u]) := by
          rw [← List.append_assoc, List.take_append_drop]
        rw [e, List.append_assoc]
        exact List.Perm.append_left _ List.perm_append_comm
      obtain ⟨ts', cs', GI, pg, nI, _⟩ := G12.ins no2 (q := u) (g := g) (k1012 _ _ ub hu) ub pm
      have v12 : ∀ z, H12 z = none → H z = none := fun z e => v10 z (k1012.none (T12.off e) e)
      have aH : ∀ x, H12 a = some x → True := fun _ _ => trivial
      refine ⟨_, _, _, ts', cs', rfl, (kp10.trans (k1012.weak fun _ z => z.1)).mut fun z => z.2 rfl, fun z e => ?_, (T12.mut ab).more (by omega), GI, nI, by rw [pg.length_eq, List.length_append]; show cs.length + 1 ≤ _; omega, fun c m => ?_⟩
      · by_cases hz : z = a
        · rw [hz, upd_same] at e
          cases e
        · rw [upd_ne hz] at e
          exact v12 z e
      · rcases List.mem_append.mp (pg.mem_iff.mp m) with m | m
        · exact L2' c m
        · rw [List.mem_singleton.mp m]
          exact hg
    · obtain ⟨y2, y3, y4, ts, cs, rfl, kp, vv, T2, G2, no2, l2, L2'⟩ := hW
      exact ⟨.ref a, rfl, q H2 ts cs kp vv (T2.more (by omega)) G2 no2 (by omega) L2'⟩
end
end El
namespace El
open PySem PySem.Spec PyProof.Rows L2
/-! ### what repr tells of pairs of numbers: how long it is -/
theorem text_200 {i : Int} (h : i.natAbs < 10 ^ 200) : (Str.ofString (toString i)).length ≤ 201 := by
  have big : ∀ j : Int, 0 ≤ j → j.natAbs < 10 ^ 200 → j < ((10 ^ 200 : Nat) : Int) := fun j j0 hj => by
    have : ((j.natAbs : Nat) : Int) < ((10 ^ 200 : Nat) : Int) := by exact_mod_cast hj
    omega
  by_cases h0 : 0 ≤ i
  · exact Nat.le_succ_of_le (PyProof.Rows.toString_length_le h0 (by decide) (by exact_mod_cast big i h0 h))
  · have e := PyProof.Rows.len_text_negI (n := i) (by omega)
    have l := PyProof.Rows.toString_length_le (v := 0 - i) (k := 200) (by omega) (by decide) (by exact_mod_cast big (0 - i) (by omega) (by omega))
    omega
theorem laid_le : ∀ (ts : List Str) (k : Nat) (acc : Str), (textFrom k acc ts).length ≤ acc.length + piled ts
  | [], _, _ => Nat.le_refl _
  | t :: ts, k, acc => by
    have h := laid_le ts (k + 1) (acc ++ (if k > 0 then ", " else "" : String) ++ t)
    have c : (((if k > 0 then ", " else "" : String) : Str)).length ≤ 2 := by
      split <;> decide +kernel
    rw [Str.length_append, Str.length_append] at h
    rw [piled_cons]
    show (textFrom (k + 1) _ ts).length ≤ _
    omega
theorem list_le (ts : List Str) : (listText ts).length ≤ 2 + piled ts := by
  have h := laid_le ts 0 "["
  have e : (listText ts).length = (textFrom 0 "[" ts).length + 1 := by
    show (textFrom 0 "[" ts ++ _).length = _
    rw [Str.length_append]
    rfl
  have o : ("[" : Str).length = 1 := by decide +kernel
  omega
theorem pair_le (a b : Str) : (tupleText [a, b]).length = a.length + b.length + 4 := by
  have h := join_length_add [a, b] (List.cons_ne_nil _ _)
  rw [piled_cons, piled_cons, piled_nil] at h
  have o : ("(" : Str).length = 1 := by decide +kernel
  have c : (((if [a, b].length == 1 then ",)" else ")" : String) : Str)).length = 1 := by
    show ((")" : String) : Str).length = 1
    decide +kernel
  unfold tupleText
  rw [Str.length_append, Str.length_append, o, c]
  omega
/-- numbers of at most two hundred figures -/
def Fit200 (gs : List (Int × Int)) : Prop := ∀ g ∈ gs, g.1.natAbs < 10 ^ 200 ∧ g.2.natAbs < 10 ^ 200
theorem gs_piled : ∀ {gs : List (Int × Int)}, Fit200 gs → piled (PyData.shownAll (gs.map fun g => .tuple [.int g.1, .int g.2])) ≤ 408 * gs.length
  | [], _ => Nat.le_refl _
  | g :: gs, h => by
    have h1 := h g List.mem_cons_self
    have h2 := gs_piled fun x m => h x (List.mem_cons_of_mem _ m)
    show piled (tupleText [Str.ofString (toString g.1), Str.ofString (toString g.2)] :: _) ≤ 408 * (gs.length + 1)
    rw [piled_cons, pair_le]
    have := text_200 h1.1
    have := text_200 h1.2
    omega
theorem gs_shown {gs : List (Int × Int)} (h : Fit200 gs) (hl : gs.length ≤ 200) : (dGs gs).shown.length ≤ sizeLine := by
  have h1 := list_le (PyData.shownAll (gs.map fun g => .tuple [.int g.1, .int g.2]))
  have h2 := gs_piled h
  have h3 : (90000 : Nat) ≤ sizeLine := by decide
  show (listText _).length ≤ _
  omega
theorem log_shown {i : Int} (h : i.natAbs < 10 ^ 200) : i.natAbs.log2 < 1920 := by
  by_cases h0 : i.natAbs = 0
  · rw [h0]
    decide
  · exact (Nat.log2_lt h0).mpr (Nat.lt_trans h (by decide))
theorem gs_showable : ∀ {gs : List (Int × Int)}, Fit200 gs → PyData.showableAll (gs.map fun g => .tuple [.int g.1, .int g.2]) = true
  | [], _ => rfl
  | g :: gs, h => by
    have h1 := h g List.mem_cons_self
    show (((decide (g.1.natAbs.log2 < 1920)) && ((decide (g.2.natAbs.log2 < 1920)) && true)) && _) = true
    rw [decide_eq_true (log_shown h1.1), decide_eq_true (log_shown h1.2), gs_showable fun x m => h x (List.mem_cons_of_mem _ m)]
    rfl
end El
namespace El
open PySem PySem.Spec PyProof.Rows L2
theorem off_or {cs : List (Int × Int)} : ∀ k : Nat, (∀ (j : Nat) (c : Int × Int), j < k → cs[j]? = some c → Fine1 c) ∨ ∃ i, FirstOff cs i
  | 0 => .inl fun j c h => absurd h (Nat.not_lt_zero _)
  | k + 1 => by
    rcases off_or (cs := cs) k with h | h
    · cases e : cs[k]? with
      | none =>
        refine .inl fun j c hj ec => ?_
        have := at_lt ec
        have h2 := List.getElem?_eq_none_iff.mp e
        exact h j c (by omega) ec
      | some c =>
        by_cases hc : Fine1 c
        · refine .inl fun j d hj ed => ?_
          by_cases z : j < k
          · exact h j d z ed
          · obtain rfl : j = k := by omega
            obtain rfl := Option.some.inj (e.symm.trans ed)
            exact hc
        · exact .inr ⟨k, ⟨c, e, hc⟩, h⟩
    · exact .inr h
theorem off_crw {cs : List (Int × Int)} {i : Nat} (h : FirstOff cs i) (hC : Crw cs) : False := by
  obtain ⟨⟨c, e, no⟩, _⟩ := h
  exact no (hC c (List.mem_of_getElem? e))
theorem due_some (door n : Int) (cs : List (Int × Int)) (h0 : 0 ≤ door) (h4 : door ≤ 4) : ∃ D, DueC door cs n D := by
  rcases off_or (cs := cs) cs.length with h | ⟨i, hi⟩
  · have hC : Crw cs := fun c m => by
      obtain ⟨j, e⟩ := List.mem_iff_getElem?.mp m
      exact h j c (at_lt e) e
    have hd : door = 0 ∨ (door = 1 ∨ door = 3) ∨ (door = 2 ∨ door = 4) := by omega
    rcases hd with z | z | z
    · exact ⟨_, .inr ⟨hC, .inl ⟨z, rfl⟩⟩⟩
    · by_cases hn : n < 0
      · exact ⟨_, .inr ⟨hC, .inr (.inl ⟨z, .inl ⟨hn, rfl⟩⟩)⟩⟩
      · exact ⟨_, .inr ⟨hC, .inr (.inl ⟨z, .inr ⟨by omega, rfl⟩⟩)⟩⟩
    · by_cases hn : n < 1 ∨ allOf cs < n
      · exact ⟨_, .inr ⟨hC, .inr (.inr ⟨z, .inl ⟨hn, rfl⟩⟩)⟩⟩
      · exact ⟨_, .inr ⟨hC, .inr (.inr ⟨z, .inr ⟨by omega, by omega, rfl⟩⟩)⟩⟩
  · exact ⟨_, .inl ⟨i, hi, rfl⟩⟩
theorem due_one {door n : Int} {cs : List (Int × Int)} {D E : Str × Dv} (h : DueC door cs n D) (k : DueC door cs n E) : D = E := by
  rcases h with ⟨i, hi, rfl⟩ | ⟨hC, h⟩
  · rcases k with ⟨j, hj, rfl⟩ | ⟨kC, _⟩
    · obtain ⟨⟨c, e, no⟩, all⟩ := hi
      rw [hj.one e no all]
    · exact (off_crw hi kC).elim
  · rcases k with ⟨j, hj, _⟩ | ⟨_, k⟩
    · exact (off_crw hj hC).elim
    · rcases h with ⟨z, rfl⟩ | ⟨z, ⟨h, rfl⟩ | ⟨h, rfl⟩⟩ | ⟨z, ⟨h, rfl⟩ | ⟨h, h', rfl⟩⟩ <;> rcases k with ⟨y, rfl⟩ | ⟨y, ⟨k, rfl⟩ | ⟨k, rfl⟩⟩ | ⟨y, ⟨k, rfl⟩ | ⟨k, k', rfl⟩⟩ <;> first | rfl | omega
theorem due_word {door n : Int} {cs : List (Int × Int)} {D : Str × Dv} (h : DueC door cs n D) : ∀ s z, (some D : Option (Str × Dv)) = some (s, z) → PyData.strOk s = true := fun s z e => by
  have k1 : PyData.strOk ("crowd" : Str) = true := by decide +kernel
  have k2 : PyData.strOk ("rooms" : Str) = true := by decide +kernel
  have k3 : PyData.strOk ("guest" : Str) = true := by decide +kernel
  have k4 : PyData.strOk ("none" : Str) = true := by decide +kernel
  obtain rfl := Option.some.inj e
  rcases h with ⟨i, _, h⟩ | ⟨_, ⟨_, h⟩ | ⟨_, ⟨_, h⟩ | ⟨_, h⟩⟩ | ⟨_, ⟨_, h⟩ | ⟨_, _, h⟩⟩⟩ <;> (rw [(Prod.mk.inj h).1]; assumption)
theorem all_lim {cs : List (Int × Int)} (h : Lim cs) : allOf cs ≤ (cs.length : Int) * 2 ^ 150 ∧ -((cs.length : Int) * 2 ^ 150) ≤ allOf cs := by
  induction cs with
  | nil => exact ⟨Int.le_refl _, Int.le_refl _⟩
  | cons c cs ih =>
    have h1 := h c List.mem_cons_self
    have h2 := ih fun d m => h d (List.mem_cons_of_mem _ m)
    have e : allOf (c :: cs) = c.1 + allOf cs := List.sum_cons
    have e2 : (((c :: cs).length : Nat) : Int) * 2 ^ 150 = (cs.length : Int) * 2 ^ 150 + 2 ^ 150 := by
      rw [List.length_cons, Int.natCast_add, Int.add_mul]
      rfl
    rw [e, e2]
    omega
section
variable {P : Program} {w : World} {K : PySem.W.Frag} {mg : Str → Option Value} {base : Heap}
abbrev s__law_right : Stmt := topS 28
abbrev N__law_right : List Str := ["pot", "lot", "shown", "last", "some", "number", "door", "count", "bears"]
abbrev P__law_right : List Str := ["pot"]
theorem sc__law_right : FnScope N__law_right P__law_right (defScope s__law_right) := ⟨rfl, rfl, rfl, by decide +kernel, rfl, by decide +kernel, by decide +kernel⟩
def sp__law_right : Sp := fun vs H Q _ => ∃ (b : Addr) (n : Nat), vs = [.ref b] ∧ Pot H b n ∧ n ≤ 700000000 ∧ ∀ H', Kp (fun z => z ≠ b) H H' → Pot H' b (n + 1000) → Q (.bl true) H'
theorem ok__law_right (A : At K mg "_law_right" P__law_right s__law_right) (B : Bi mg) (D__law_draw : Df P w K mg base 1 "_law_draw" P__law_draw s__law_draw sp__law_draw) (D__law_lot : Df P w K mg base 3 "_law_lot" P__law_lot s__law_lot sp__law_lot) (D__law_bent : Df P w K mg base 2 "_law_bent" P__law_bent s__law_bent sp__law_bent)
    (D__law_asked : Df P w K mg base 6 "_law_asked" P__law_asked s__law_asked sp__law_asked) (D__law_due : Df P w K mg base 1 "_law_due" P__law_due s__law_due sp__law_due) : DfG P w K mg base 7 "_law_right" P__law_right s__law_right sp__law_right := by
  refine A.dfG sc__law_right (fun vs H Q E h => ?_) fun f fd F cdv AA outer s H vs Q E calm hr h => ?_
  · obtain ⟨_, _, rfl, _⟩ := h
    rfl
  · obtain ⟨b, n, rfl, hT, hn, q⟩ := h
    have nd := sc__law_right.nd
    refine ⟨_, (pss_cons (ps_set (i := 1) nd rfl (.inl rfl) (pe_df D__law_bent (hr.mono (by decide)) (by rfl) (pa_cons (pv 0) (pa_cons (pe_df D__law_lot (hr.mono (by decide)) (by rfl) (pa_cons (pv 0) (pa_cons (pe_ix ix_list (pe_lst (pa_cons pe_int (pa_cons pe_int pa_nil))) (pe_df D__law_draw (hr.mono (by decide)) (by rfl) (pa_cons (pv 0) (pa_cons pe_int pa_nil))) (fun _ _ => rfl)) (pa_cons (pe_op op_sub (pe_op op_pow pe_int pe_int) pe_int) pa_nil)))) pa_nil))))
    (pss_cons (ps_set (i := 2) nd rfl (.inl rfl) (pe_callB (call_reprD calm hr) (by rfl) B.repr (by decide +kernel) (pa_cons (pv 1) pa_nil)))
    (pss_cons (ps_set (i := 3) nd rfl (.inl rfl) (pe_callB (call_max2 rfl) (by rfl) B.max (by decide +kernel) (pa_cons pe_int (pa_cons (pe_callB (cr_sum rfl) (by rfl) B.sum (by decide +kernel) (pa_cons (pe_lc (own := [("count", 7), ("bears", 8)]) (tt := tYes) rfl nd (pi_list (pv 1)) (blkOk_by (N := N__law_right) (sc := defScope s__law_right) (by decide +kernel)) (fun _ _ _ _ _ => (pgTupK K 2 (by rfl) (pgs_cons (pg_name (i := 7) nd rfl (.inl rfl)) (pgs_cons (pg_name (i := 8) nd rfl (.inl rfl)) pgs_nil)))) (fun _ _ _ _ _ => pts_nil) (fun _ _ _ _ _ => (pv 7))) pa_nil)) pa_nil))))
    (pss_cons (ps_set (i := 4) nd rfl (.inl rfl) (pe_lst (pa_cons (pe_un un_neg pe_int) (pa_cons pe_int (pa_cons pe_int (pa_cons (pv 3) (pa_cons (pe_op op_add (pv 3) pe_int) (pa_cons (pe_op op_sub (pe_op op_pow pe_int pe_int) pe_int) (pa_cons (pe_op op_sub pe_int (pe_df D__law_draw (hr.mono (by decide)) (by rfl) (pa_cons (pv 0) (pa_cons (pe_op op_pow pe_int pe_int) pa_nil)))) (pa_cons (pe_df D__law_draw (hr.mono (by decide)) (by rfl) (pa_cons (pv 0) (pa_cons pe_int pa_nil))) pa_nil))))))))))
    (pss_cons (ps_for PassesOwn.never rfl (pi_list (pv 4)) (pg_name (i := 5) nd rfl (.inl rfl)) (pss_one (ps_for PassesOwn.never rfl (pi_range1 (by rfl) B.range (pa_cons pe_int pa_nil)) (pg_name (i := 6) nd rfl (.inl rfl)) (pss_one (ps_if (pt_cmpR (op_neD hr.units) (pe_df D__law_asked (hr.mono (by decide)) (by rfl) (pa_cons (pv 6) (pa_cons (pv 1) (pa_cons (pv 5) pa_nil)))) (pe_df D__law_due (hr.mono (by decide)) (by rfl) (pa_cons (pv 6) (pa_cons (pv 1) (pa_cons (pv 5) pa_nil)))) (nomark _)) (pss_one (ps_ret pe_bl)) pss_nil)))))
    (pss_one (ps_ret (pe_cmpR op_eq (pe_callB (call_reprD calm hr) (by rfl) B.repr (by decide +kernel) (pa_cons (pv 1) pa_nil)) (pv 2) (nomark _))))))))), ?_⟩
    -- lot
    refine ⟨.ref b, rfl, .ref b, rfl, (by show 2 ≤ sizeLine; decide), fun p np => ?_⟩
    have sp := same_new (o := .lst [.int 12, .int 37]) np
    have op := hT.off np
    refine ⟨.ref b, rfl, b, n, 2, rfl, hT.same sp, by omega, by decide, by decide, fun H1 r1 k1 T1 a1 b1 => ?_⟩
    obtain ⟨most, hv1, h1, h2⟩ := pick2 (P := fun x => 0 ≤ x ∧ x ≤ 50) (a := 12) (b := 37) a1 b1 (by decide) (by decide)
    refine ⟨p, _, _, _, rfl, rfl, SqL.of (k1 _ _ op upd_same), hv1, _, _, rfl, rfl, ⟨by decide, by decide, by decide⟩, _, _, rfl, rfl, ?_⟩
    refine ⟨b, _, most, 10 ^ Int.toNat 30 - 1, rfl, T1, by omega, h1, h2, by decide, by decide, fun H2 lo us0 cs0 d2 G2 lc2 L2' => ?_⟩
    have G2' : GsAt H2 (fun z => z ≠ b) lo us0 cs0 := G2.weaken fun z e => T1.off e
    refine ⟨b, lo, _, us0, cs0, rfl, d2.t, by omega, G2', off_tops G2, by omega, fun c m => ?_, fun H3 us cs k3 v3 T3 G3 no3 l3 L3 => ?_⟩
    · have hb : (10 ^ Int.toNat 30 - 1 : Int) < 2 ^ 150 := by decide
      have := L2' c m
      omega
    dsimp only [gName]
    have lo0 : H lo = none := sp.free (k1.none (T1.off G2.ba) G2.ba)
    have kp3 : Kp (fun z => z ≠ b) H H3 := fun z x hz e => by
      have zl : z ≠ lo := fun y => by rw [y, lo0] at e; cases e
      exact k3 z x ⟨hz, zl⟩ (d2.k z x hz (k1 z x hz (sp z x e)))
    have small : Fit200 cs := fun c m => by
      have := L3 c m
      have h9 : (2 : Nat) ^ 150 < 10 ^ 200 := by decide
      have h8 : ((2 ^ 150 : Nat) : Int) = 2 ^ 150 := by decide
      omega
    have big : ∀ c ∈ cs, c.1 < 2 ^ 150 ∧ c.2 < 2 ^ 150 := fun c m => ⟨(L3 c m).1, (L3 c m).2.1⟩
    -- shown
    refine ⟨.ref lo, rfl, lo, dGs cs, rfl, G3.dp, gs_showable small, PyData.hasDict_of_canLay _ (Oks.gs _).can, Nat.le_trans (Oks.gs _).dep (by decide), gs_shown small (by omega), ?_⟩
    dsimp only [gName]
    -- last
    refine ⟨.ref lo, rfl, lo, rfl, ⟨_, G3.seq⟩, fun D2 nD2 => ?_⟩
    refine lc_it (walk_list (xs := us.map V.ref)) (fun i H6 => Same H3 H6 ∧ H6 D2 = some (.lst (((cs.take i).map (·.1)).map V.int))) ⟨same_new nD2, upd_same⟩ (fun i H6 _ hW => (G3.same hW.1).seq) (fun i x H6 H7 hi hW hY => ?_) (fun H6 hW => ?_)
    · obtain ⟨s6, e6⟩ := hW
      obtain ⟨rfl, hx⟩ := hY
      obtain ⟨u, z, rfl, ez, eu⟩ := (G3.same s6).get hx
      refine ⟨u, _, rfl, SqT.of eu, rfl, .int z.1, _, rfl, .int z.2, _, rfl, rfl, rfl, .int z.1, rfl, _, e6, ils (by rw [List.length_map, List.length_map, List.length_take]; omega), Same.mut s6 nD2, ?_⟩
      rw [upd_same, take_snoc ez, List.map_append, List.map_append]
      rfl
    obtain ⟨s6, e6⟩ := hW
    rw [List.length_map, G3.len, take_full] at e6
    refine ⟨D2, _, rfl, SqL.of e6, _, _, rfl, ?_⟩
    have hal := all_lim L3
    have hl63 : (cs.length : Int) * 2 ^ 150 ≤ 63 * 2 ^ 150 := Int.mul_le_mul_of_nonneg_right (by omega) (by decide)
    obtain ⟨lst, hlst, hl0, hl1⟩ : ∃ l : Int, l = (if (cs.map (·.1)).sum > 0 then (cs.map (·.1)).sum else 0) ∧ 0 ≤ l ∧ l ≤ 63 * 2 ^ 150 := by
      refine ⟨_, rfl, ?_, ?_⟩
      · split <;> omega
      · have : (cs.map (·.1)).sum = allOf cs := rfl
        split <;> omega
    rw [← hlst]
    clear hlst
    dsimp only [gName]
    have G6 := G3.same s6
    have T6 := T3.same s6
    -- some
    refine ⟨_, rfl, .int lst, rfl, .int lst, rfl, _, _, rfl, rfl, _, _, rfl, rfl, ⟨by decide, by decide, by decide⟩, _, _, rfl, rfl, .ref b, rfl, _, _, rfl, rfl, ⟨by decide, by decide, by decide⟩, ?_⟩
    refine ⟨b, _, 10 ^ Int.toNat 30, rfl, T6, by omega, by decide, by decide, fun H7 r7 k7 T7 a7 b7 => ⟨_, _, rfl, rfl, .ref b, rfl, b, _, 9, rfl, T7, by omega, by decide, by decide, fun H8 r8 k8 T8 a8 b8 => ⟨(by show 8 ≤ sizeLine; decide), fun so nso => ?_⟩⟩⟩
    have G8 := (G6.keep k7).keep k8
    have s8 := same_new (o := .lst [.int (-1), .int 0, .int 1, .int lst, .int (lst + 1), .int (10 ^ Int.toNat 40 - 1), .int (0 - r7), .int r8]) nso
    have G9 := G8.same s8
    have T9 := T8.same s8
    have kp9 : Kp (fun z => z ≠ b) H (upd H8 so (.lst ([-1, 0, 1, lst, lst + 1, 10 ^ Int.toNat 40 - 1, 0 - r7, r8].map V.int))) := (((kp3.trans (.of s6)).trans k7).trans k8).trans (.of s8)
    have e9 : upd H8 so (.lst ([-1, 0, 1, lst, lst + 1, 10 ^ Int.toNat 40 - 1, 0 - r7, r8].map V.int)) so = some (.lst ([-1, 0, 1, lst, lst + 1, 10 ^ Int.toNat 40 - 1, 0 - r7, r8].map V.int)) := upd_same
    have hnum : ∀ x ∈ ([-1, 0, 1, lst, lst + 1, 10 ^ Int.toNat 40 - 1, 0 - r7, r8] : List Int), x.natAbs < 10 ^ 200 ∧ x < 2 ^ 190 := fun x m => by
      have h9 : (2 : Nat) ^ 190 < 10 ^ 200 := by decide
      have h8 : ((2 ^ 190 : Nat) : Int) = 2 ^ 190 := by decide
      have h7 : (63 : Int) * 2 ^ 150 + 1 < 2 ^ 190 := by decide
      have h6 : (10 ^ Int.toNat 40 - 1 : Int) < 2 ^ 190 := by decide
      have h5 : (0 : Int) ≤ 10 ^ Int.toNat 40 - 1 := by decide
      have h4 : (10 ^ Int.toNat 30 : Int) < 2 ^ 190 := by decide
      have : -(2 ^ 190) < x ∧ x < 2 ^ 190 := by
        rcases List.mem_cons.mp m with rfl | m
        · decide
        rcases List.mem_cons.mp m with rfl | m
        · decide
        rcases List.mem_cons.mp m with rfl | m
        · decide
        rcases List.mem_cons.mp m with rfl | m
        · omega
        rcases List.mem_cons.mp m with rfl | m
        · omega
        rcases List.mem_cons.mp m with rfl | m
        · omega
        rcases List.mem_cons.mp m with rfl | m
        · omega
        · rw [List.mem_singleton.mp m]
          omega
      omega
    dsimp only [gName]
    obtain ⟨ns, hns⟩ : ∃ ns : List Int, ns = [-1, 0, 1, lst, lst + 1, 10 ^ Int.toNat 40 - 1, 0 - r7, r8] := ⟨_, rfl⟩
    have lns : ns.length = 8 := by rw [hns]; rfl
    obtain ⟨H9, hH9⟩ : ∃ H9 : Hp, H9 = upd H8 so (.lst (ns.map V.int)) := ⟨_, rfl⟩
    have G9 : GsAt H9 (fun z => z ≠ b) lo us cs := by rw [hH9, hns]; exact G9
    have T9 : Pot H9 b (n + 1 + 600 + 30 + 1 + 1) := by rw [hH9, hns]; exact T9
    have kp9 : Kp (fun z => z ≠ b) H H9 := by rw [hH9, hns]; exact kp9
    have e9 : H9 so = some (.lst (ns.map V.int)) := by rw [hH9, hns]; exact e9
    rw [← hns] at hnum
    refine seq_to (fun σ H' => ∃ y5 y6, σ = [some (.ref b), some (.ref lo), some (.str (dGs cs).shown), some (.int lst), some (.ref so), y5, y6, none, none] ∧ Same H9 H') (fun X hX => ?_) (fun σ H' hE => ?_)
    · refine ⟨.ref so, rfl, so, rfl, ⟨ns.map V.int, SqL.of (by rw [hns]; exact upd_same)⟩, ?_⟩
      refine for_it (walk_list (xs := ns.map V.int)) (fun i σ H' => ∃ y5 y6, σ = [some (.ref b), some (.ref lo), some (.str (dGs cs).shown), some (.int lst), some (.ref so), y5, y6, none, none] ∧ Same H9 H') ⟨_, _, rfl, by rw [hH9, hns]; exact Same.refl _⟩ (fun i σ H' _ hW => ?_) (fun i v σ Ha Hb hi hW hY => ?_) (fun σ H' hW => hX _ _ hW)
      · obtain ⟨_, _, _, sm⟩ := hW
        exact SqL.of (sm _ _ e9)
      · obtain ⟨y5, y6, rfl, sm⟩ := hW
        obtain ⟨rfl, hv⟩ := hY
        obtain ⟨num, en, rfl⟩ := ints_at hv
        obtain ⟨hn1, hn2⟩ := hnum num (List.mem_of_getElem? en)
        refine ⟨_, rfl, by decide, by decide, ?_⟩
        refine for_it walk_range (fun k σ H' => ∃ y6, σ = [some (.ref b), some (.ref lo), some (.str (dGs cs).shown), some (.int lst), some (.ref so), some (.int num), y6, none, none] ∧ Same H9 H') ⟨_, rfl, sm⟩ (fun _ _ _ _ _ => trivial) (fun k v σ Hc Hd hk hW hY => ?_) (fun σ H' hW => ?_)
        · obtain ⟨y6, rfl, sc⟩ := hW
          obtain ⟨rfl, hx⟩ := hY
          obtain rfl := rg0 hx
          have hk5 : k < 5 := hk
          obtain ⟨D, hD⟩ := due_some (k : Int) num cs (by omega) (by omega)
          have Gc := G9.same sc
          refine ⟨.int (k : Int), rfl, .ref lo, rfl, .int num, rfl, _, lo, (k : Int), num, us, cs, D, rfl, by omega, by omega, Gc, by omega, big, hn1, hn2, hD, fun He v1 s1 d1 => ?_⟩
          refine ⟨.int (k : Int), rfl, .ref lo, rfl, .int num, rfl, _, lo, (k : Int), num, us, cs, rfl, by omega, by omega, Gc.same s1, by omega, fun Hf v2 D2 s2 d2 hD2 => ?_⟩
          obtain rfl := due_one hD hD2
          have ok := Oks.dv (due_word hD)
          refine ⟨dDv (some D), dDv (some D), (d1.same s2).dp, d2.dp, ok.shaped, ok.shaped, _, rfl, iteX (by rw [ok.eqv]; rfl) ⟨_, rfl, sc.trans (s1.trans s2)⟩⟩
        · obtain ⟨y6, rfl, sc⟩ := hW
          exact ⟨_, _, rfl, sc⟩
    · obtain ⟨y5, y6, rfl, sm⟩ := hE
      refine ⟨.ref lo, rfl, lo, dGs cs, rfl, (G9.same sm).dp, gs_showable small, PyData.hasDict_of_canLay _ (Oks.gs _).can, Nat.le_trans (Oks.gs _).dep (by decide), gs_shown small (by omega), .str (dGs cs).shown, rfl, rfl, ?_⟩
      rw [decide_eq_true rfl]
      exact q H' (kp9.trans (.of sm)) ((T9.same sm).more (by omega))
end
end El
namespace El
open PySem PySem.Spec PyProof.Rows L2
section
variable {P : Program} {w : World} {K : PySem.W.Frag} {mg : Str → Option Value} {base : Heap}
abbrev s_law : Stmt := topS 29
abbrev N_law : List Str := ["script", "at", "pot", "turn"]
abbrev P_law : List Str := ["script"]
theorem sc_law : FnScope N_law P_law (defScope s_law) := ⟨rfl, rfl, rfl, by decide +kernel, rfl, by decide +kernel, by decide +kernel⟩
def sp_law (K : PySem.W.Frag) : Sp := fun vs H Q _ => ∃ (a : Addr) (ns : List Int), vs = [.ref a] ∧ SqL K H a (ns.map V.int) ∧ ns.length ≤ 63 ∧ ∀ H', Q (.bl true) H'
theorem ok_law (A : At K mg "law" P_law s_law) (B : Bi mg) (D__law_pot : Df P w K mg base 1 "_law_pot" P__law_pot s__law_pot (sp__law_pot K)) (D__law_right : DfG P w K mg base 7 "_law_right" P__law_right s__law_right sp__law_right) : DfG P w K mg base 8 "law" P_law s_law (sp_law K) := by
  refine A.dfG sc_law (fun vs H Q E h => ?_) fun f fd F cdv AA outer s H vs Q E calm hr h => ?_
  · obtain ⟨_, _, rfl, _⟩ := h
    rfl
  · obtain ⟨a, ns, rfl, hS, hl, q⟩ := h
    have nd := sc_law.nd
    refine ⟨_, (pss_cons (ps_for PassesOwn.never rfl (pi_range1 (by rfl) B.range (pa_cons (pe_callB (call_max2 rfl) (by rfl) B.max (by decide +kernel) (pa_cons pe_int (pa_cons (pe_callB (call_min2 rfl) (by rfl) B.min (by decide +kernel) (pa_cons pe_int (pa_cons (pe_callB call_len_seq (by rfl) B.len PySem.boot_len (pa_cons (pv 0) pa_nil)) pa_nil))) pa_nil))) pa_nil)) (pg_name (i := 1) nd rfl (.inl rfl)) (pss_cons (ps_set (i := 2) nd rfl (.inl rfl) (pe_df D__law_pot (hr.mono (by decide)) (by rfl) (pa_cons (pv 0) (pa_cons (pv 1) pa_nil)))) (pss_one (ps_for PassesOwn.never rfl (pi_range1 (by rfl) B.range (pa_cons pe_int pa_nil)) (pg_name (i := 3) nd rfl (.inl rfl)) (pss_one (ps_if (pt_not (pt_val (pe_dfG D__law_right calm (hr.mono (by decide)) (by rfl) (pa_cons (pv 2) pa_nil)))) (pss_one (ps_ret pe_bl)) pss_nil))))))
    (pss_one (ps_ret pe_bl))), ?_⟩
    refine ⟨.ref a, rfl, a, _, rfl, .inl hS, _, _, rfl, _, _, rfl, _, rfl, ?_, ?_, ?_⟩
    · split <;> split <;> omega
    · split <;> split <;> omega
    refine for_it walk_range (fun i σ H2 => ∃ y1 y2 y3, σ = [some (.ref a), y1, y2, y3] ∧ Same H H2) ⟨_, _, _, rfl, fun _ _ e => e⟩ (fun _ _ _ _ _ => trivial) (fun i x σ H2 H3 hi hW hY => ?_) (fun σ H2 hW => ?_)
    · obtain ⟨y1, y2, y3, rfl, s2⟩ := hW
      obtain ⟨rfl, rfl⟩ := hY
      have hi5 : i < 9 := by
        revert hi
        split <;> split <;> omega
      refine ⟨.ref a, rfl, .int (0 + (i : Int)), rfl, a, ns, i, by rw [Int.zero_add]; rfl, s2.seq hS, by omega, fun H4 b s4 nb T4 => ?_⟩
      dsimp only [gName]
      refine ⟨_, rfl, by decide, by decide, ?_⟩
      refine for_it walk_range (fun k σ H5 => ∃ y3, σ = [some (.ref a), some (.int (0 + (i : Int))), some (.ref b), y3] ∧ Same H H5 ∧ Pot H5 b (1000 * k)) ⟨_, rfl, s2.trans s4, T4⟩ (fun _ _ _ _ _ => trivial) (fun k x σ H5 H6 hk hW hY => ?_) (fun σ H5 hW => ?_)
      · obtain ⟨y3, rfl, s5, T5⟩ := hW
        obtain ⟨rfl, rfl⟩ := hY
        have hk3 : k < 2 := hk
        refine ⟨.ref b, rfl, b, _, rfl, T5, by omega, fun H7 k7 T7 => ⟨_, rfl, ?_⟩⟩
        refine ifNo rfl ?_
        have nb0 : H b = none := s2.free nb
        exact ⟨_, rfl, fun z u e => k7 z u (fun y => by rw [y, nb0] at e; cases e) (s5 z u e), T7.more (by omega)⟩
      · obtain ⟨y3, rfl, s5, T5⟩ := hW
        exact ⟨_, _, _, rfl, s5⟩
    · obtain ⟨y1, y2, y3, rfl, s2⟩ := hW
      exact q H2
end
end El
namespace El
open PySem PySem.Spec PyProof.Rows L2
theorem all_mk {l : PySem.W.OpenLaw} {w : World} {K : PySem.W.Frag} {h : Heap} {mg : Str → Option Value} {fa f1 f2 f3 f4 f5 f6 f7 f8 f9 f10 f11 f12 f13 f14 f15 f16 f17 f18 f19 f20 : Addr} (X : K.In h) (G : h.Ns mainGlobals mg) (hfa : mg "law" = some (.ref fa))
    {od1 an1 od2 an2 od3 an3 od4 an4 od5 an5 od6 an6 od7 an7 od8 an8 od9 an9 od10 an10 od11 an11 od12 an12 od13 an13 od14 an14 od15 an15 od16 an16 od17 an17 od18 an18 od19 an19 od20 an20 : Option Addr} {sl1 sl2 sl3 sl4 sl5 sl6 sl7 sl8 sl9 sl10 sl11 sl12 sl13 sl14 sl15 sl16 sl17 sl18 sl19 sl20 : Array (Option Value)} {oc1 kV1 dc1 pm1 cd1 ct1 oc2 kV2 dc2 pm2 cd2 ct2 oc3 kV3 dc3 pm3 cd3 ct3 oc4 kV4 dc4 pm4 cd4 ct4 oc5 kV5 dc5 pm5 cd5 ct5 oc6 kV6 dc6 pm6 cd6 ct6 oc7 kV7 dc7 pm7 cd7 ct7 oc8 kV8 dc8 pm8 cd8 ct8 oc9 kV9 dc9 pm9 cd9 ct9 oc10 kV10 dc10 pm10 cd10 ct10 oc11 kV11 dc11 pm11 cd11 ct11 oc12 kV12 dc12 pm12 cd12 ct12 oc13 kV13 dc13 pm13 cd13 ct13 oc14 kV14 dc14 pm14 cd14 ct14 oc15 kV15 dc15 pm15 cd15 ct15 oc16 kV16 dc16 pm16 cd16 ct16 oc17 kV17 dc17 pm17 cd17 ct17 oc18 kV18 dc18 pm18 cd18 ct18 oc19 kV19 dc19 pm19 cd19 ct19 oc20 kV20 dc20 pm20 cd20 ct20 : Value}
    (a1 : PySem.W.nsIn K mainGlobals "check_first" = some (some (.ref f1))) (l1 : K.lookup f1 = some ⟨oc1, od1, .func (PySem.W.fnOf "check_first" "check_first" (defArgs s_check_first) (defBody s_check_first) (defScope s_check_first) .none kV1 dc1 pm1 an1 cd1 ct1), sl1⟩) (c1 : PySem.W.codeIn K cd1 "check_first" = true) (k1 : PySem.W.keepIn K (.ref f1) = true)
    (a2 : PySem.W.nsIn K mainGlobals "is_crowd" = some (some (.ref f2))) (l2 : K.lookup f2 = some ⟨oc2, od2, .func (PySem.W.fnOf "is_crowd" "is_crowd" (defArgs s_is_crowd) (defBody s_is_crowd) (defScope s_is_crowd) .none kV2 dc2 pm2 an2 cd2 ct2), sl2⟩) (c2 : PySem.W.codeIn K cd2 "is_crowd" = true) (k2 : PySem.W.keepIn K (.ref f2) = true)
    (a3 : PySem.W.nsIn K mainGlobals "check_crowds" = some (some (.ref f3))) (l3 : K.lookup f3 = some ⟨oc3, od3, .func (PySem.W.fnOf "check_crowds" "check_crowds" (defArgs s_check_crowds) (defBody s_check_crowds) (defScope s_check_crowds) .none kV3 dc3 pm3 an3 cd3 ct3), sl3⟩) (c3 : PySem.W.codeIn K cd3 "check_crowds" = true) (k3 : PySem.W.keepIn K (.ref f3) = true)
    (a4 : PySem.W.nsIn K mainGlobals "places" = some (some (.ref f4))) (l4 : K.lookup f4 = some ⟨oc4, od4, .func (PySem.W.fnOf "places" "places" (defArgs s_places) (defBody s_places) (defScope s_places) .none kV4 dc4 pm4 an4 cd4 ct4), sl4⟩) (c4 : PySem.W.codeIn K cd4 "places" = true) (k4 : PySem.W.keepIn K (.ref f4) = true)
    (a5 : PySem.W.nsIn K mainGlobals "grown_rooms" = some (some (.ref f5))) (l5 : K.lookup f5 = some ⟨oc5, od5, .func (PySem.W.fnOf "grown_rooms" "grown_rooms" (defArgs s_grown_rooms) (defBody s_grown_rooms) (defScope s_grown_rooms) .none kV5 dc5 pm5 an5 cd5 ct5), sl5⟩) (c5 : PySem.W.codeIn K cd5 "grown_rooms" = true) (k5 : PySem.W.keepIn K (.ref f5) = true)
    (a6 : PySem.W.nsIn K mainGlobals "after_crowd" = some (some (.ref f6))) (l6 : K.lookup f6 = some ⟨oc6, od6, .func (PySem.W.fnOf "after_crowd" "after_crowd" (defArgs s_after_crowd) (defBody s_after_crowd) (defScope s_after_crowd) .none kV6 dc6 pm6 an6 cd6 ct6), sl6⟩) (c6 : PySem.W.codeIn K cd6 "after_crowd" = true) (k6 : PySem.W.keepIn K (.ref f6) = true)
    (a7 : PySem.W.nsIn K mainGlobals "crowd_sizes" = some (some (.ref f7))) (l7 : K.lookup f7 = some ⟨oc7, od7, .func (PySem.W.fnOf "crowd_sizes" "crowd_sizes" (defArgs s_crowd_sizes) (defBody s_crowd_sizes) (defScope s_crowd_sizes) .none kV7 dc7 pm7 an7 cd7 ct7), sl7⟩) (c7 : PySem.W.codeIn K cd7 "crowd_sizes" = true) (k7 : PySem.W.keepIn K (.ref f7) = true)
    (a8 : PySem.W.nsIn K mainGlobals "crowd_in_first" = some (some (.ref f8))) (l8 : K.lookup f8 = some ⟨oc8, od8, .func (PySem.W.fnOf "crowd_in_first" "crowd_in_first" (defArgs s_crowd_in_first) (defBody s_crowd_in_first) (defScope s_crowd_in_first) .none kV8 dc8 pm8 an8 cd8 ct8), sl8⟩) (c8 : PySem.W.codeIn K cd8 "crowd_in_first" = true) (k8 : PySem.W.keepIn K (.ref f8) = true)
    (a9 : PySem.W.nsIn K mainGlobals "room_of_nth" = some (some (.ref f9))) (l9 : K.lookup f9 = some ⟨oc9, od9, .func (PySem.W.fnOf "room_of_nth" "room_of_nth" (defArgs s_room_of_nth) (defBody s_room_of_nth) (defScope s_room_of_nth) .none kV9 dc9 pm9 an9 cd9 ct9), sl9⟩) (c9 : PySem.W.codeIn K cd9 "room_of_nth" = true) (k9 : PySem.W.keepIn K (.ref f9) = true)
    (a10 : PySem.W.nsIn K mainGlobals "room_of" = some (some (.ref f10))) (l10 : K.lookup f10 = some ⟨oc10, od10, .func (PySem.W.fnOf "room_of" "room_of" (defArgs s_room_of) (defBody s_room_of) (defScope s_room_of) .none kV10 dc10 pm10 an10 cd10 ct10), sl10⟩) (c10 : PySem.W.codeIn K cd10 "room_of" = true) (k10 : PySem.W.keepIn K (.ref f10) = true)
    (a11 : PySem.W.nsIn K mainGlobals "_law_pot" = some (some (.ref f11))) (l11 : K.lookup f11 = some ⟨oc11, od11, .func (PySem.W.fnOf "_law_pot" "_law_pot" (defArgs s__law_pot) (defBody s__law_pot) (defScope s__law_pot) .none kV11 dc11 pm11 an11 cd11 ct11), sl11⟩) (c11 : PySem.W.codeIn K cd11 "_law_pot" = true) (k11 : PySem.W.keepIn K (.ref f11) = true)
    (a12 : PySem.W.nsIn K mainGlobals "_law_draw" = some (some (.ref f12))) (l12 : K.lookup f12 = some ⟨oc12, od12, .func (PySem.W.fnOf "_law_draw" "_law_draw" (defArgs s__law_draw) (defBody s__law_draw) (defScope s__law_draw) .none kV12 dc12 pm12 an12 cd12 ct12), sl12⟩) (c12 : PySem.W.codeIn K cd12 "_law_draw" = true) (k12 : PySem.W.keepIn K (.ref f12) = true)
    (a13 : PySem.W.nsIn K mainGlobals "_law_one_crowd" = some (some (.ref f13))) (l13 : K.lookup f13 = some ⟨oc13, od13, .func (PySem.W.fnOf "_law_one_crowd" "_law_one_crowd" (defArgs s__law_one_crowd) (defBody s__law_one_crowd) (defScope s__law_one_crowd) .none kV13 dc13 pm13 an13 cd13 ct13), sl13⟩) (c13 : PySem.W.codeIn K cd13 "_law_one_crowd" = true) (k13 : PySem.W.keepIn K (.ref f13) = true)
    (a14 : PySem.W.nsIn K mainGlobals "_law_lot" = some (some (.ref f14))) (l14 : K.lookup f14 = some ⟨oc14, od14, .func (PySem.W.fnOf "_law_lot" "_law_lot" (defArgs s__law_lot) (defBody s__law_lot) (defScope s__law_lot) .none kV14 dc14 pm14 an14 cd14 ct14), sl14⟩) (c14 : PySem.W.codeIn K cd14 "_law_lot" = true) (k14 : PySem.W.keepIn K (.ref f14) = true)
    (a15 : PySem.W.nsIn K mainGlobals "_law_kind" = some (some (.ref f15))) (l15 : K.lookup f15 = some ⟨oc15, od15, .func (PySem.W.fnOf "_law_kind" "_law_kind" (defArgs s__law_kind) (defBody s__law_kind) (defScope s__law_kind) .none kV15 dc15 pm15 an15 cd15 ct15), sl15⟩) (c15 : PySem.W.codeIn K cd15 "_law_kind" = true) (k15 : PySem.W.keepIn K (.ref f15) = true)
    (a16 : PySem.W.nsIn K mainGlobals "_law_bent" = some (some (.ref f16))) (l16 : K.lookup f16 = some ⟨oc16, od16, .func (PySem.W.fnOf "_law_bent" "_law_bent" (defArgs s__law_bent) (defBody s__law_bent) (defScope s__law_bent) .none kV16 dc16 pm16 an16 cd16 ct16), sl16⟩) (c16 : PySem.W.codeIn K cd16 "_law_bent" = true) (k16 : PySem.W.keepIn K (.ref f16) = true)
    (a17 : PySem.W.nsIn K mainGlobals "_law_due" = some (some (.ref f17))) (l17 : K.lookup f17 = some ⟨oc17, od17, .func (PySem.W.fnOf "_law_due" "_law_due" (defArgs s__law_due) (defBody s__law_due) (defScope s__law_due) .none kV17 dc17 pm17 an17 cd17 ct17), sl17⟩) (c17 : PySem.W.codeIn K cd17 "_law_due" = true) (k17 : PySem.W.keepIn K (.ref f17) = true)
    (a18 : PySem.W.nsIn K mainGlobals "_law_asked" = some (some (.ref f18))) (l18 : K.lookup f18 = some ⟨oc18, od18, .func (PySem.W.fnOf "_law_asked" "_law_asked" (defArgs s__law_asked) (defBody s__law_asked) (defScope s__law_asked) .none kV18 dc18 pm18 an18 cd18 ct18), sl18⟩) (c18 : PySem.W.codeIn K cd18 "_law_asked" = true) (k18 : PySem.W.keepIn K (.ref f18) = true)
    (a19 : PySem.W.nsIn K mainGlobals "_law_right" = some (some (.ref f19))) (l19 : K.lookup f19 = some ⟨oc19, od19, .func (PySem.W.fnOf "_law_right" "_law_right" (defArgs s__law_right) (defBody s__law_right) (defScope s__law_right) .none kV19 dc19 pm19 an19 cd19 ct19), sl19⟩) (c19 : PySem.W.codeIn K cd19 "_law_right" = true) (k19 : PySem.W.keepIn K (.ref f19) = true)
    (a20 : PySem.W.nsIn K mainGlobals "law" = some (some (.ref f20))) (l20 : K.lookup f20 = some ⟨oc20, od20, .func (PySem.W.fnOf "law" "law" (defArgs s_law) (defBody s_law) (defScope s_law) .none kV20 dc20 pm20 an20 cd20 ct20), sl20⟩) (c20 : PySem.W.codeIn K cd20 "law" = true) (k20 : PySem.W.keepIn K (.ref f20) = true)
    {C0 : Addr} {CNoRoom : Addr} {CNoText : Addr} {CNoCrowd fNoCrowd NNoCrowd : Addr} {nmNoCrowd qNoCrowd : Str} {bsNoCrowd subNoCrowd : List Value} {snNoCrowd : List Str} {abNoCrowd : Bool} {colNoCrowd : Option Bool} {ddNoCrowd odNoCrowd anNoCrowd : Option Addr} {m0NoCrowd m1NoCrowd m2NoCrowd m3NoCrowd m5NoCrowd : Option Value} {ocNoCrowd kVNoCrowd dcNoCrowd pmNoCrowd cdNoCrowd ctNoCrowd : Value} {oslNoCrowd : Array (Option Value)} {CNoRooms fNoRooms NNoRooms : Addr} {nmNoRooms qNoRooms : Str} {bsNoRooms subNoRooms : List Value} {snNoRooms : List Str} {abNoRooms : Bool} {colNoRooms : Option Bool} {ddNoRooms odNoRooms anNoRooms : Option Addr} {m0NoRooms m1NoRooms m2NoRooms m3NoRooms m5NoRooms : Option Value} {ocNoRooms kVNoRooms dcNoRooms pmNoRooms cdNoRooms ctNoRooms : Value} {oslNoRooms : Array (Option Value)} {CNoGuest fNoGuest NNoGuest : Addr} {nmNoGuest qNoGuest : Str} {bsNoGuest subNoGuest : List Value} {snNoGuest : List Str} {abNoGuest : Bool} {colNoGuest : Option Bool} {ddNoGuest odNoGuest anNoGuest : Option Addr} {m0NoGuest m1NoGuest m2NoGuest m3NoGuest m5NoGuest : Option Value} {ocNoGuest kVNoGuest dcNoGuest pmNoGuest cdNoGuest ctNoGuest : Value} {oslNoGuest : Array (Option Value)}
    (aC0 : PySem.W.nsIn K mainGlobals "InnError" = some (some (.ref C0)))
    (rd0 : PySem.W.readsIn K C0 (.type "type") = true)
    (sg0 : PySem.W.specialIn K (.ref C0) "__getattribute__" = some (some (.builtin "type.__getattribute__")))
    (fc0 : PySem.W.findCls K (.ref C0) (.type "type") "__init__" = some (.val (.builtin "ValueError.__init__")))
    (eC0 : PySem.W.subIn K (.ref C0) (.type "BaseException") = some true)
    (hC0 : PySem.W.hasDictIn K C0 = true)
    (tC0 : PySem.W.typeIn K (.ref C0) = some (.type "type"))
    (jn : PySem.W.specialIn K (.builtin "object.__class__") "__get__" = some (some (.builtin "getset_descriptor.__get__")))
    (jt : PySem.W.takesIn K (.builtin "object.__class__") = some true)
    (gNoRoom : PySem.W.nsIn K mainGlobals "NoRoom" = some (some (.ref CNoRoom)))
    (gNoText : PySem.W.nsIn K mainGlobals "NoText" = some (some (.ref CNoText)))
    (gNoCrowd : PySem.W.nsIn K mainGlobals "NoCrowd" = some (some (.ref CNoCrowd)))
    (xlNoCrowd : K.lookup CNoCrowd = some (excClassObj nmNoCrowd qNoCrowd CNoCrowd NNoCrowd bsNoCrowd [.ref C0, .type "ValueError", .type "Exception", .type "BaseException", .type "object"] true snNoCrowd subNoCrowd abNoCrowd colNoCrowd ddNoCrowd m0NoCrowd m1NoCrowd m2NoCrowd m3NoCrowd m5NoCrowd "ValueError.__new__"))
    (saNoCrowd : PySem.W.findIn K (.ref CNoCrowd) "__setattr__" = some (some (.builtin "object.__setattr__")))
    (gaNoCrowd : PySem.W.findIn K (.ref CNoCrowd) "__getattribute__" = some (some (.builtin "BaseException.__getattribute__")))
    (ggNoCrowd : PySem.W.findIn K (.ref CNoCrowd) "__getattr__" = some none)
    (nwNoCrowd : PySem.W.findIn K (.ref CNoCrowd) "what" = some none)
    (aiNoCrowd : PySem.W.findIn K (.ref CNoCrowd) "__init__" = some (some (.ref fNoCrowd)))
    (tiNoCrowd : PySem.W.typeIn K (.ref fNoCrowd) = some (.type "function"))
    (liNoCrowd : K.lookup fNoCrowd = some ⟨ocNoCrowd, odNoCrowd, .func (PySem.W.fnOf "__init__" "NoCrowd.__init__" (defArgs sI_NoCrowd) (defBody sI_NoCrowd) (defScope sI_NoCrowd) .none kVNoCrowd dcNoCrowd pmNoCrowd anNoCrowd cdNoCrowd ctNoCrowd), oslNoCrowd⟩)
    (ciNoCrowd : PySem.W.codeIn K cdNoCrowd "NoCrowd.__init__" = true)
    (kiNoCrowd : PySem.W.keepIn K (.ref fNoCrowd) = true)
    (kCNoCrowd : PySem.W.keepIn K (.ref CNoCrowd) = true)
    (eCNoCrowd : PySem.W.subIn K (.ref CNoCrowd) (.type "BaseException") = some true)
    (tCNoCrowd : PySem.W.typeIn K (.ref CNoCrowd) = some (.type "type"))
    (hCNoCrowd : PySem.W.hasDictIn K CNoCrowd = true)
    (clNoCrowd : PySem.W.isClsIn K CNoCrowd = true)
    (svNoCrowd : PySem.W.subIn K (.ref CNoCrowd) (.type "ValueError") = some true)
    (acNoCrowd : PySem.W.findIn K (.ref CNoCrowd) "__class__" = some (some (.builtin "object.__class__")))
    (moNoCrowd : PySem.W.mroIn K CNoCrowd (.type "object") = some true)
    (suNoCrowd : PySem.W.subIn K (.ref CNoCrowd) (.ref C0) = some true)
    (gNoRooms : PySem.W.nsIn K mainGlobals "NoRooms" = some (some (.ref CNoRooms)))
    (xlNoRooms : K.lookup CNoRooms = some (excClassObj nmNoRooms qNoRooms CNoRooms NNoRooms bsNoRooms [.ref C0, .type "ValueError", .type "Exception", .type "BaseException", .type "object"] true snNoRooms subNoRooms abNoRooms colNoRooms ddNoRooms m0NoRooms m1NoRooms m2NoRooms m3NoRooms m5NoRooms "ValueError.__new__"))
    (saNoRooms : PySem.W.findIn K (.ref CNoRooms) "__setattr__" = some (some (.builtin "object.__setattr__")))
    (gaNoRooms : PySem.W.findIn K (.ref CNoRooms) "__getattribute__" = some (some (.builtin "BaseException.__getattribute__")))
    (ggNoRooms : PySem.W.findIn K (.ref CNoRooms) "__getattr__" = some none)
    (nwNoRooms : PySem.W.findIn K (.ref CNoRooms) "what" = some none)
    (aiNoRooms : PySem.W.findIn K (.ref CNoRooms) "__init__" = some (some (.ref fNoRooms)))
    (tiNoRooms : PySem.W.typeIn K (.ref fNoRooms) = some (.type "function"))
    (liNoRooms : K.lookup fNoRooms = some ⟨ocNoRooms, odNoRooms, .func (PySem.W.fnOf "__init__" "NoRooms.__init__" (defArgs sI_NoRooms) (defBody sI_NoRooms) (defScope sI_NoRooms) .none kVNoRooms dcNoRooms pmNoRooms anNoRooms cdNoRooms ctNoRooms), oslNoRooms⟩)
    (ciNoRooms : PySem.W.codeIn K cdNoRooms "NoRooms.__init__" = true)
    (kiNoRooms : PySem.W.keepIn K (.ref fNoRooms) = true)
    (kCNoRooms : PySem.W.keepIn K (.ref CNoRooms) = true)
    (eCNoRooms : PySem.W.subIn K (.ref CNoRooms) (.type "BaseException") = some true)
    (tCNoRooms : PySem.W.typeIn K (.ref CNoRooms) = some (.type "type"))
    (hCNoRooms : PySem.W.hasDictIn K CNoRooms = true)
    (clNoRooms : PySem.W.isClsIn K CNoRooms = true)
    (svNoRooms : PySem.W.subIn K (.ref CNoRooms) (.type "ValueError") = some true)
    (acNoRooms : PySem.W.findIn K (.ref CNoRooms) "__class__" = some (some (.builtin "object.__class__")))
    (moNoRooms : PySem.W.mroIn K CNoRooms (.type "object") = some true)
    (suNoRooms : PySem.W.subIn K (.ref CNoRooms) (.ref C0) = some true)
    (gNoGuest : PySem.W.nsIn K mainGlobals "NoGuest" = some (some (.ref CNoGuest)))
    (xlNoGuest : K.lookup CNoGuest = some (excClassObj nmNoGuest qNoGuest CNoGuest NNoGuest bsNoGuest [.ref C0, .type "ValueError", .type "Exception", .type "BaseException", .type "object"] true snNoGuest subNoGuest abNoGuest colNoGuest ddNoGuest m0NoGuest m1NoGuest m2NoGuest m3NoGuest m5NoGuest "ValueError.__new__"))
    (saNoGuest : PySem.W.findIn K (.ref CNoGuest) "__setattr__" = some (some (.builtin "object.__setattr__")))
    (gaNoGuest : PySem.W.findIn K (.ref CNoGuest) "__getattribute__" = some (some (.builtin "BaseException.__getattribute__")))
    (ggNoGuest : PySem.W.findIn K (.ref CNoGuest) "__getattr__" = some none)
    (nwNoGuest : PySem.W.findIn K (.ref CNoGuest) "what" = some none)
    (aiNoGuest : PySem.W.findIn K (.ref CNoGuest) "__init__" = some (some (.ref fNoGuest)))
    (tiNoGuest : PySem.W.typeIn K (.ref fNoGuest) = some (.type "function"))
    (liNoGuest : K.lookup fNoGuest = some ⟨ocNoGuest, odNoGuest, .func (PySem.W.fnOf "__init__" "NoGuest.__init__" (defArgs sI_NoGuest) (defBody sI_NoGuest) (defScope sI_NoGuest) .none kVNoGuest dcNoGuest pmNoGuest anNoGuest cdNoGuest ctNoGuest), oslNoGuest⟩)
    (ciNoGuest : PySem.W.codeIn K cdNoGuest "NoGuest.__init__" = true)
    (kiNoGuest : PySem.W.keepIn K (.ref fNoGuest) = true)
    (kCNoGuest : PySem.W.keepIn K (.ref CNoGuest) = true)
    (eCNoGuest : PySem.W.subIn K (.ref CNoGuest) (.type "BaseException") = some true)
    (tCNoGuest : PySem.W.typeIn K (.ref CNoGuest) = some (.type "type"))
    (hCNoGuest : PySem.W.hasDictIn K CNoGuest = true)
    (clNoGuest : PySem.W.isClsIn K CNoGuest = true)
    (svNoGuest : PySem.W.subIn K (.ref CNoGuest) (.type "ValueError") = some true)
    (acNoGuest : PySem.W.findIn K (.ref CNoGuest) "__class__" = some (some (.builtin "object.__class__")))
    (moNoGuest : PySem.W.mroIn K CNoGuest (.type "object") = some true)
    (suNoGuest : PySem.W.subIn K (.ref CNoGuest) (.ref C0) = some true)
    (clNoRoom : PySem.W.isClsIn K CNoRoom = true)
    (tCNoRoom : PySem.W.typeIn K (.ref CNoRoom) = some (.type "type"))
    (clNoText : PySem.W.isClsIn K CNoText = true)
    (tCNoText : PySem.W.typeIn K (.ref CNoText) = some (.type "type"))
    (suNoCrowdNoRooms : PySem.W.subIn K (.ref CNoCrowd) (.ref CNoRooms) = some false)
    (neNoCrowdNoRooms : CNoCrowd ≠ CNoRooms)
    (suNoCrowdNoGuest : PySem.W.subIn K (.ref CNoCrowd) (.ref CNoGuest) = some false)
    (neNoCrowdNoGuest : CNoCrowd ≠ CNoGuest)
    (suNoCrowdNoRoom : PySem.W.subIn K (.ref CNoCrowd) (.ref CNoRoom) = some false)
    (neNoCrowdNoRoom : CNoCrowd ≠ CNoRoom)
    (suNoCrowdNoText : PySem.W.subIn K (.ref CNoCrowd) (.ref CNoText) = some false)
    (neNoCrowdNoText : CNoCrowd ≠ CNoText)
    (suNoRoomsNoCrowd : PySem.W.subIn K (.ref CNoRooms) (.ref CNoCrowd) = some false)
    (neNoRoomsNoCrowd : CNoRooms ≠ CNoCrowd)
    (suNoRoomsNoGuest : PySem.W.subIn K (.ref CNoRooms) (.ref CNoGuest) = some false)
    (neNoRoomsNoGuest : CNoRooms ≠ CNoGuest)
    (suNoRoomsNoRoom : PySem.W.subIn K (.ref CNoRooms) (.ref CNoRoom) = some false)
    (neNoRoomsNoRoom : CNoRooms ≠ CNoRoom)
    (suNoRoomsNoText : PySem.W.subIn K (.ref CNoRooms) (.ref CNoText) = some false)
    (neNoRoomsNoText : CNoRooms ≠ CNoText)
    (suNoGuestNoCrowd : PySem.W.subIn K (.ref CNoGuest) (.ref CNoCrowd) = some false)
    (neNoGuestNoCrowd : CNoGuest ≠ CNoCrowd)
    (suNoGuestNoRooms : PySem.W.subIn K (.ref CNoGuest) (.ref CNoRooms) = some false)
    (neNoGuestNoRooms : CNoGuest ≠ CNoRooms)
    (suNoGuestNoRoom : PySem.W.subIn K (.ref CNoGuest) (.ref CNoRoom) = some false)
    (neNoGuestNoRoom : CNoGuest ≠ CNoRoom)
    (suNoGuestNoText : PySem.W.subIn K (.ref CNoGuest) (.ref CNoText) = some false)
    (neNoGuestNoText : CNoGuest ≠ CNoText)
    (z1 : PySem.W.nsIn K mainGlobals "len" = some none) (z2 : PySem.W.nsIn K mainGlobals "range" = some none) (z3 : PySem.W.nsIn K mainGlobals "enumerate" = some none) (z4 : PySem.W.nsIn K mainGlobals "sorted" = some none) (z5 : PySem.W.nsIn K mainGlobals "sum" = some none) (z6 : PySem.W.nsIn K mainGlobals "min" = some none) (z7 : PySem.W.nsIn K mainGlobals "max" = some none) (z8 : PySem.W.nsIn K mainGlobals "isinstance" = some none) (z9 : PySem.W.nsIn K mainGlobals "zip" = some none) (z10 : PySem.W.nsIn K mainGlobals "list" = some none) (z11 : PySem.W.nsIn K mainGlobals "tuple" = some none) (z12 : PySem.W.nsIn K mainGlobals "int" = some none) (z13 : PySem.W.nsIn K mainGlobals "bool" = some none) (z14 : PySem.W.nsIn K mainGlobals "str" = some none) (z15 : PySem.W.nsIn K mainGlobals "abs" = some none) (z16 : PySem.W.nsIn K mainGlobals "repr" = some none) (z17 : PySem.W.nsIn K mainGlobals "dict" = some none) (z18 : PySem.W.nsIn K mainGlobals "any" = some none) (z19 : PySem.W.nsIn K mainGlobals "all" = some none) (z20 : PySem.W.nsIn K mainGlobals "set" = some none) (z21 : PySem.W.nsIn K mainGlobals "reversed" = some none) (z22 : PySem.W.nsIn K mainGlobals "ValueError" = some none) (z23 : PySem.W.nsIn K mainGlobals "divmod" = some none) :
    ∃ fd : FuncData, (∀ (s : Shared) (v : Value), BindsTo s fd ⟨[v], []⟩ [("script", v)]) ∧ ∀ base : Heap, K.In base → base.Ns mainGlobals mg → ∀ A : Around, A.guards = some [] → Room 8 A → Goes l.prog w K mg base fa fd ["script"] (sp_law K) A := by
  obtain rfl : f20 = fa := by
    have e := (PySem.W.mg_of X G a20).symm.trans hfa
    injection e with e
    injection e
  have B : Bi mg := ⟨PySem.W.mg_none_of X G z1, PySem.W.mg_none_of X G z2, PySem.W.mg_none_of X G z3, PySem.W.mg_none_of X G z4, PySem.W.mg_none_of X G z5, PySem.W.mg_none_of X G z6, PySem.W.mg_none_of X G z7, PySem.W.mg_none_of X G z8, PySem.W.mg_none_of X G z9, PySem.W.mg_none_of X G z10, PySem.W.mg_none_of X G z11, PySem.W.mg_none_of X G z12, PySem.W.mg_none_of X G z13, PySem.W.mg_none_of X G z14, PySem.W.mg_none_of X G z15, PySem.W.mg_none_of X G z16, PySem.W.mg_none_of X G z17, PySem.W.mg_none_of X G z18, PySem.W.mg_none_of X G z19, PySem.W.mg_none_of X G z20, PySem.W.mg_none_of X G z21, PySem.W.mg_none_of X G z22, PySem.W.mg_none_of X G z23⟩
  have A1 : At K mg "check_first" P_check_first s_check_first := .mk' X G a1 l1 c1 k1 fun _ _ _ _ _ _ us hl => match us, hl with | [_], _ => rfl
  have A2 : At K mg "is_crowd" P_is_crowd s_is_crowd := .mk' X G a2 l2 c2 k2 fun _ _ _ _ _ _ us hl => match us, hl with | [_, _], _ => rfl
  have A3 : At K mg "check_crowds" P_check_crowds s_check_crowds := .mk' X G a3 l3 c3 k3 fun _ _ _ _ _ _ us hl => match us, hl with | [_], _ => rfl
  have A4 : At K mg "places" P_places s_places := .mk' X G a4 l4 c4 k4 fun _ _ _ _ _ _ us hl => match us, hl with | [_, _], _ => rfl
  have A5 : At K mg "grown_rooms" P_grown_rooms s_grown_rooms := .mk' X G a5 l5 c5 k5 fun _ _ _ _ _ _ us hl => match us, hl with | [_, _, _, _], _ => rfl
  have A6 : At K mg "after_crowd" P_after_crowd s_after_crowd := .mk' X G a6 l6 c6 k6 fun _ _ _ _ _ _ us hl => match us, hl with | [_, _, _], _ => rfl
  have A7 : At K mg "crowd_sizes" P_crowd_sizes s_crowd_sizes := .mk' X G a7 l7 c7 k7 fun _ _ _ _ _ _ us hl => match us, hl with | [_], _ => rfl
  have A8 : At K mg "crowd_in_first" P_crowd_in_first s_crowd_in_first := .mk' X G a8 l8 c8 k8 fun _ _ _ _ _ _ us hl => match us, hl with | [_, _], _ => rfl
  have A9 : At K mg "room_of_nth" P_room_of_nth s_room_of_nth := .mk' X G a9 l9 c9 k9 fun _ _ _ _ _ _ us hl => match us, hl with | [_, _, _], _ => rfl
  have A10 : At K mg "room_of" P_room_of s_room_of := .mk' X G a10 l10 c10 k10 fun _ _ _ _ _ _ us hl => match us, hl with | [_, _], _ => rfl
  have A11 : At K mg "_law_pot" P__law_pot s__law_pot := .mk' X G a11 l11 c11 k11 fun _ _ _ _ _ _ us hl => match us, hl with | [_, _], _ => rfl
  have A12 : At K mg "_law_draw" P__law_draw s__law_draw := .mk' X G a12 l12 c12 k12 fun _ _ _ _ _ _ us hl => match us, hl with | [_, _], _ => rfl
  have A13 : At K mg "_law_one_crowd" P__law_one_crowd s__law_one_crowd := .mk' X G a13 l13 c13 k13 fun _ _ _ _ _ _ us hl => match us, hl with | [_, _, _], _ => rfl
  have A14 : At K mg "_law_lot" P__law_lot s__law_lot := .mk' X G a14 l14 c14 k14 fun _ _ _ _ _ _ us hl => match us, hl with | [_, _, _], _ => rfl
  have A15 : At K mg "_law_kind" P__law_kind s__law_kind := .mk' X G a15 l15 c15 k15 fun _ _ _ _ _ _ us hl => match us, hl with | [_], _ => rfl
  have A16 : At K mg "_law_bent" P__law_bent s__law_bent := .mk' X G a16 l16 c16 k16 fun _ _ _ _ _ _ us hl => match us, hl with | [_, _], _ => rfl
  have A17 : At K mg "_law_due" P__law_due s__law_due := .mk' X G a17 l17 c17 k17 fun _ _ _ _ _ _ us hl => match us, hl with | [_, _, _], _ => rfl
  have A18 : At K mg "_law_asked" P__law_asked s__law_asked := .mk' X G a18 l18 c18 k18 fun _ _ _ _ _ _ us hl => match us, hl with | [_, _, _], _ => rfl
  have A19 : At K mg "_law_right" P__law_right s__law_right := .mk' X G a19 l19 c19 k19 fun _ _ _ _ _ _ us hl => match us, hl with | [_], _ => rfl
  have A20 : At K mg "law" P_law s_law := .mk' X G a20 l20 c20 k20 fun _ _ _ _ _ _ us hl => match us, hl with | [_], _ => rfl
  refine ⟨PySem.W.fnOf "law" "law" (defArgs s_law) (defBody s_law) (defScope s_law) .none kV20 dc20 pm20 an20 cd20 ct20, fun s v => .of_eq rfl, fun base _ _ => ?_⟩
  have T0 : InnC K mg C0 := ⟨PySem.W.mg_of X G aC0, rd0, sg0, fc0⟩
  have JX : IsX K := ⟨jn, jt⟩
  have G_NoRoom := PySem.W.mg_of X G gNoRoom
  have G_NoText := PySem.W.mg_of X G gNoText
  have ONoCrowd : Own K mg "NoCrowd" CNoCrowd fNoCrowd := ⟨PySem.W.mg_of X G gNoCrowd, ⟨⟨nmNoCrowd, qNoCrowd, NNoCrowd, bsNoCrowd, _, snNoCrowd, subNoCrowd, abNoCrowd, colNoCrowd, ddNoCrowd, m0NoCrowd, m1NoCrowd, m2NoCrowd, m3NoCrowd, m5NoCrowd, xlNoCrowd, own_mro C0⟩, saNoCrowd, eCNoCrowd, tCNoCrowd, kCNoCrowd⟩, ⟨gaNoCrowd, ggNoCrowd, eCNoCrowd, hCNoCrowd⟩, nwNoCrowd, aiNoCrowd, tiNoCrowd, clNoCrowd, acNoCrowd, moNoCrowd⟩
  have E_NoCrowd := own_NoCrowd (P := l.prog) (w := w) (base := base) ONoCrowd (fun_mk (st := sI_NoCrowd) liNoCrowd ciNoCrowd kiNoCrowd) T0
  have kv_NoCrowd := kit_ve svNoCrowd
  have k_NoCrowd_NoCrowd := kit_self (K := K) CNoCrowd
  have k_NoCrowd_NoRooms := kit_no suNoCrowdNoRooms clNoRooms tCNoRooms neNoCrowdNoRooms
  have k_NoCrowd_NoGuest := kit_no suNoCrowdNoGuest clNoGuest tCNoGuest neNoCrowdNoGuest
  have k_NoCrowd_NoRoom := kit_no suNoCrowdNoRoom clNoRoom tCNoRoom neNoCrowdNoRoom
  have k_NoCrowd_NoText := kit_no suNoCrowdNoText clNoText tCNoText neNoCrowdNoText
  have teNoCrowd : PySem.W.exmOne K (.ref CNoCrowd) (.ref C0) = some true := te_of eC0 hC0 tC0 suNoCrowd
  have ONoRooms : Own K mg "NoRooms" CNoRooms fNoRooms := ⟨PySem.W.mg_of X G gNoRooms, ⟨⟨nmNoRooms, qNoRooms, NNoRooms, bsNoRooms, _, snNoRooms, subNoRooms, abNoRooms, colNoRooms, ddNoRooms, m0NoRooms, m1NoRooms, m2NoRooms, m3NoRooms, m5NoRooms, xlNoRooms, own_mro C0⟩, saNoRooms, eCNoRooms, tCNoRooms, kCNoRooms⟩, ⟨gaNoRooms, ggNoRooms, eCNoRooms, hCNoRooms⟩, nwNoRooms, aiNoRooms, tiNoRooms, clNoRooms, acNoRooms, moNoRooms⟩
  have E_NoRooms := own_NoRooms (P := l.prog) (w := w) (base := base) ONoRooms (fun_mk (st := sI_NoRooms) liNoRooms ciNoRooms kiNoRooms) T0
  have kv_NoRooms := kit_ve svNoRooms
  have k_NoRooms_NoCrowd := kit_no suNoRoomsNoCrowd clNoCrowd tCNoCrowd neNoRoomsNoCrowd
  have k_NoRooms_NoRooms := kit_self (K := K) CNoRooms
  have k_NoRooms_NoGuest := kit_no suNoRoomsNoGuest clNoGuest tCNoGuest neNoRoomsNoGuest
  have k_NoRooms_NoRoom := kit_no suNoRoomsNoRoom clNoRoom tCNoRoom neNoRoomsNoRoom
  have k_NoRooms_NoText := kit_no suNoRoomsNoText clNoText tCNoText neNoRoomsNoText
  have teNoRooms : PySem.W.exmOne K (.ref CNoRooms) (.ref C0) = some true := te_of eC0 hC0 tC0 suNoRooms
  have ONoGuest : Own K mg "NoGuest" CNoGuest fNoGuest := ⟨PySem.W.mg_of X G gNoGuest, ⟨⟨nmNoGuest, qNoGuest, NNoGuest, bsNoGuest, _, snNoGuest, subNoGuest, abNoGuest, colNoGuest, ddNoGuest, m0NoGuest, m1NoGuest, m2NoGuest, m3NoGuest, m5NoGuest, xlNoGuest, own_mro C0⟩, saNoGuest, eCNoGuest, tCNoGuest, kCNoGuest⟩, ⟨gaNoGuest, ggNoGuest, eCNoGuest, hCNoGuest⟩, nwNoGuest, aiNoGuest, tiNoGuest, clNoGuest, acNoGuest, moNoGuest⟩
  have E_NoGuest := own_NoGuest (P := l.prog) (w := w) (base := base) ONoGuest (fun_mk (st := sI_NoGuest) liNoGuest ciNoGuest kiNoGuest) T0
  have kv_NoGuest := kit_ve svNoGuest
  have k_NoGuest_NoCrowd := kit_no suNoGuestNoCrowd clNoCrowd tCNoCrowd neNoGuestNoCrowd
  have k_NoGuest_NoRooms := kit_no suNoGuestNoRooms clNoRooms tCNoRooms neNoGuestNoRooms
  have k_NoGuest_NoGuest := kit_self (K := K) CNoGuest
  have k_NoGuest_NoRoom := kit_no suNoGuestNoRoom clNoRoom tCNoRoom neNoGuestNoRoom
  have k_NoGuest_NoText := kit_no suNoGuestNoText clNoText tCNoText neNoGuestNoText
  have teNoGuest : PySem.W.exmOne K (.ref CNoGuest) (.ref C0) = some true := te_of eC0 hC0 tC0 suNoGuest
  have G_InnError := PySem.W.mg_of X G aC0
  have G_NoCrowd := PySem.W.mg_of X G gNoCrowd
  have G_NoRooms := PySem.W.mg_of X G gNoRooms
  have G_NoGuest := PySem.W.mg_of X G gNoGuest
  have K_NoCrowd : KdC K C0 CNoCrowd CNoRooms CNoGuest CNoRoom CNoText CNoCrowd true false false := ⟨teNoCrowd, k_NoCrowd_NoCrowd, k_NoCrowd_NoRooms, k_NoCrowd_NoGuest, kit_none (fun c m => by rcases List.mem_cons.mp m with rfl | m; exact k_NoCrowd_NoRoom; rw [List.mem_singleton.mp m]; exact k_NoCrowd_NoText), kv_NoCrowd, .inl ⟨rfl, rfl, rfl⟩⟩
  have K_NoRooms : KdC K C0 CNoCrowd CNoRooms CNoGuest CNoRoom CNoText CNoRooms false true false := ⟨teNoRooms, k_NoRooms_NoCrowd, k_NoRooms_NoRooms, k_NoRooms_NoGuest, kit_none (fun c m => by rcases List.mem_cons.mp m with rfl | m; exact k_NoRooms_NoRoom; rw [List.mem_singleton.mp m]; exact k_NoRooms_NoText), kv_NoRooms, .inr (.inl ⟨rfl, rfl, rfl⟩)⟩
  have K_NoGuest : KdC K C0 CNoCrowd CNoRooms CNoGuest CNoRoom CNoText CNoGuest false false true := ⟨teNoGuest, k_NoGuest_NoCrowd, k_NoGuest_NoRooms, k_NoGuest_NoGuest, kit_none (fun c m => by rcases List.mem_cons.mp m with rfl | m; exact k_NoGuest_NoRoom; rw [List.mem_singleton.mp m]; exact k_NoGuest_NoText), kv_NoGuest, .inr (.inr ⟨rfl, rfl, rfl⟩)⟩
  have D_check_first := ok_check_first (P := l.prog) (w := w) (base := base) A1 
  have XD_check_first := okx_check_first (P := l.prog) (w := w) (base := base) A1 E_NoRooms
  have D_is_crowd := ok_is_crowd (P := l.prog) (w := w) (base := base) A2 
  have D_check_crowds := ok_check_crowds (P := l.prog) (w := w) (base := base) A3 B D_is_crowd
  have XD_check_crowds := okx_check_crowds (P := l.prog) (w := w) (base := base) A3 B E_NoCrowd D_is_crowd
  have D_places := ok_places (P := l.prog) (w := w) (base := base) A4 B
  have D_grown_rooms := ok_grown_rooms (P := l.prog) (w := w) (base := base) A5 B D_places
  have D_after_crowd := ok_after_crowd (P := l.prog) (w := w) (base := base) A6 B D_places D_grown_rooms
  have D_crowd_sizes := ok_crowd_sizes (P := l.prog) (w := w) (base := base) A7 B D_check_crowds D_after_crowd
  have XD_crowd_sizes := okx_crowd_sizes (P := l.prog) (w := w) (base := base) A7 B XD_check_crowds D_after_crowd D_crowd_sizes
  have D_crowd_in_first := ok_crowd_in_first (P := l.prog) (w := w) (base := base) A8 B D_crowd_sizes D_check_first
  have XD_crowd_in_first := okx_crowd_in_first (P := l.prog) (w := w) (base := base) A8 B XD_crowd_sizes XD_check_first D_crowd_in_first
  have D_room_of_nth := ok_room_of_nth (P := l.prog) (w := w) (base := base) A9 B D_places
  have D_room_of := ok_room_of (P := l.prog) (w := w) (base := base) A10 B D_check_crowds D_after_crowd D_room_of_nth
  have XD_room_of := okx_room_of (P := l.prog) (w := w) (base := base) A10 B E_NoGuest XD_check_crowds D_after_crowd D_room_of_nth D_room_of
  have D__law_pot := ok__law_pot (P := l.prog) (w := w) (base := base) A11 B
  have D__law_draw := ok__law_draw (P := l.prog) (w := w) (base := base) A12 B
  have D__law_one_crowd := ok__law_one_crowd (P := l.prog) (w := w) (base := base) A13 B D__law_draw
  have D__law_lot := ok__law_lot (P := l.prog) (w := w) (base := base) A14 B D__law_draw D__law_one_crowd
  have D__law_kind := ok__law_kind (P := l.prog) (w := w) (base := base) A15 (C0 := C0) B G_NoGuest G_NoRooms G_NoRoom G_NoCrowd G_NoText JX
  have D__law_bent := ok__law_bent (P := l.prog) (w := w) (base := base) A16 B D__law_draw
  have D__law_due := ok__law_due (P := l.prog) (w := w) (base := base) A17 B
  have D__law_asked := ok__law_asked (P := l.prog) (w := w) (base := base) A18 B G_InnError K_NoCrowd K_NoRooms K_NoGuest ⟨_, _, ONoCrowd⟩ ⟨_, _, ONoRooms⟩ ⟨_, _, ONoGuest⟩ XD_crowd_sizes XD_crowd_in_first XD_room_of D__law_kind
  have D__law_right := ok__law_right (P := l.prog) (w := w) (base := base) A19 B D__law_draw D__law_lot D__law_bent D__law_asked D__law_due
  have D_law := ok_law (P := l.prog) (w := w) (base := base) A20 B D__law_pot D__law_right
  exact D_law.goes hfa l20
end El
open PySem PySem.W PyProof.Rows
set_option maxRecDepth 100000 in
set_option maxHeartbeats 0 in
theorem PySem.Challenge.cw_elderinn_k22_crowds_refused_holds : PySem.Challenge.rw_elderinn_k22_crowds_refused.Holds := by
  w_on; o_law; k_head; (case hw => w_witness2)
  k_fill
  refine El.walk_goes (l := PySem.Challenge.rw_elderinn_k22_crowds_refused) (n := 63) (k := 8) (x := "script") (sp := El.sp_law) rfl (by decide) rfl ⟨rfl, by decide, by decide⟩ (fun w h Y => PySem.W.kIn_of Y) ?F (fun _ _ a ns hl hS => ⟨a, ns, rfl, hS, hl, fun _ => rfl⟩)
  case F =>
    intro w mg fa h KX G hmg
    refine' El.all_mk KX G hmg ?a1 ?l1 ?c1 ?k1 ?a2 ?l2 ?c2 ?k2 ?a3 ?l3 ?c3 ?k3 ?a4 ?l4 ?c4 ?k4 ?a5 ?l5 ?c5 ?k5 ?a6 ?l6 ?c6 ?k6 ?a7 ?l7 ?c7 ?k7 ?a8 ?l8 ?c8 ?k8 ?a9 ?l9 ?c9 ?k9 ?a10 ?l10 ?c10 ?k10 ?a11 ?l11 ?c11 ?k11 ?a12 ?l12 ?c12 ?k12 ?a13 ?l13 ?c13 ?k13 ?a14 ?l14 ?c14 ?k14 ?a15 ?l15 ?c15 ?k15 ?a16 ?l16 ?c16 ?k16 ?a17 ?l17 ?c17 ?k17 ?a18 ?l18 ?c18 ?k18 ?a19 ?l19 ?c19 ?k19 ?a20 ?l20 ?c20 ?k20 ?aC0 ?rd0 ?sg0 ?fc0 ?eC0 ?hC0 ?tC0 ?jn ?jt ?gNoRoom ?gNoText ?gNoCrowd ?xlNoCrowd ?saNoCrowd ?gaNoCrowd ?ggNoCrowd ?nwNoCrowd ?aiNoCrowd ?tiNoCrowd ?liNoCrowd ?ciNoCrowd ?kiNoCrowd ?kCNoCrowd ?eCNoCrowd ?tCNoCrowd ?hCNoCrowd ?clNoCrowd ?svNoCrowd ?acNoCrowd ?moNoCrowd ?suNoCrowd ?gNoRooms ?xlNoRooms ?saNoRooms ?gaNoRooms ?ggNoRooms ?nwNoRooms ?aiNoRooms ?tiNoRooms ?liNoRooms ?ciNoRooms ?kiNoRooms ?kCNoRooms ?eCNoRooms ?tCNoRooms ?hCNoRooms ?clNoRooms ?svNoRooms ?acNoRooms ?moNoRooms ?suNoRooms ?gNoGuest ?xlNoGuest ?saNoGuest ?gaNoGuest ?ggNoGuest ?nwNoGuest ?aiNoGuest ?tiNoGuest ?liNoGuest ?ciNoGuest ?kiNoGuest ?kCNoGuest ?eCNoGuest ?tCNoGuest ?hCNoGuest ?clNoGuest ?svNoGuest ?acNoGuest ?moNoGuest ?suNoGuest ?clNoRoom ?tCNoRoom ?clNoText ?tCNoText ?suNoCrowdNoRooms ?neNoCrowdNoRooms ?suNoCrowdNoGuest ?neNoCrowdNoGuest ?suNoCrowdNoRoom ?neNoCrowdNoRoom ?suNoCrowdNoText ?neNoCrowdNoText ?suNoRoomsNoCrowd ?neNoRoomsNoCrowd ?suNoRoomsNoGuest ?neNoRoomsNoGuest ?suNoRoomsNoRoom ?neNoRoomsNoRoom ?suNoRoomsNoText ?neNoRoomsNoText ?suNoGuestNoCrowd ?neNoGuestNoCrowd ?suNoGuestNoRooms ?neNoGuestNoRooms ?suNoGuestNoRoom ?neNoGuestNoRoom ?suNoGuestNoText ?neNoGuestNoText ?z1 ?z2 ?z3 ?z4 ?z5 ?z6 ?z7 ?z8 ?z9 ?z10 ?z11 ?z12 ?z13 ?z14 ?z15 ?z16 ?z17 ?z18 ?z19 ?z20 ?z21 ?z22 ?z23
    (case a1 => k_is)
    (case l1 => k_is)
    (case c1 => k_is)
    (case k1 => k_is)
    (case a2 => k_is)
    (case l2 => k_is)
    (case c2 => k_is)
    (case k2 => k_is)
    (case a3 => k_is)
    (case l3 => k_is)
    (case c3 => k_is)
    (case k3 => k_is)
    (case a4 => k_is)
    (case l4 => k_is)
    (case c4 => k_is)
    (case k4 => k_is)
    (case a5 => k_is)
    (case l5 => k_is)
    (case c5 => k_is)
    (case k5 => k_is)
    (case a6 => k_is)
    (case l6 => k_is)
    (case c6 => k_is)
    (case k6 => k_is)
    (case a7 => k_is)
    (case l7 => k_is)
    (case c7 => k_is)
    (case k7 => k_is)
    (case a8 => k_is)
    (case l8 => k_is)
    (case c8 => k_is)
    (case k8 => k_is)
    (case a9 => k_is)
    (case l9 => k_is)
    (case c9 => k_is)
    (case k9 => k_is)
    (case a10 => k_is)
    (case l10 => k_is)
    (case c10 => k_is)
    (case k10 => k_is)
    (case a11 => k_is)
    (case l11 => k_is)
    (case c11 => k_is)
    (case k11 => k_is)
    (case a12 => k_is)
    (case l12 => k_is)
    (case c12 => k_is)
    (case k12 => k_is)
    (case a13 => k_is)
    (case l13 => k_is)
    (case c13 => k_is)
    (case k13 => k_is)
    (case a14 => k_is)
    (case l14 => k_is)
    (case c14 => k_is)
    (case k14 => k_is)
    (case a15 => k_is)
    (case l15 => k_is)
    (case c15 => k_is)
    (case k15 => k_is)
    (case a16 => k_is)
    (case l16 => k_is)
    (case c16 => k_is)
    (case k16 => k_is)
    (case a17 => k_is)
    (case l17 => k_is)
    (case c17 => k_is)
    (case k17 => k_is)
    (case a18 => k_is)
    (case l18 => k_is)
    (case c18 => k_is)
    (case k18 => k_is)
    (case a19 => k_is)
    (case l19 => k_is)
    (case c19 => k_is)
    (case k19 => k_is)
    (case a20 => k_is)
    (case l20 => k_is)
    (case c20 => k_is)
    (case k20 => k_is)
    (case aC0 => k_is)
    (case rd0 => k_is)
    (case sg0 => k_is)
    (case fc0 => k_is)
    (case eC0 => k_is)
    (case hC0 => k_is)
    (case tC0 => k_is)
    (case jn => k_is)
    (case jt => k_is)
    (case gNoRoom => k_is)
    (case gNoText => k_is)
    (case gNoCrowd => k_is)
    (case xlNoCrowd => k_is)
    (case saNoCrowd => k_is)
    (case gaNoCrowd => k_is)
    (case ggNoCrowd => k_is)
    (case nwNoCrowd => k_is)
    (case aiNoCrowd => k_is)
    (case tiNoCrowd => k_is)
    (case liNoCrowd => k_is)
    (case ciNoCrowd => k_is)
    (case kiNoCrowd => k_is)
    (case kCNoCrowd => k_is)
    (case eCNoCrowd => k_is)
    (case tCNoCrowd => k_is)
    (case hCNoCrowd => k_is)
    (case clNoCrowd => k_is)
    (case svNoCrowd => k_is)
    (case acNoCrowd => k_is)
    (case moNoCrowd => k_is)
    (case suNoCrowd => k_is)
    (case gNoRooms => k_is)
    (case xlNoRooms => k_is)
    (case saNoRooms => k_is)
    (case gaNoRooms => k_is)
    (case ggNoRooms => k_is)
    (case nwNoRooms => k_is)
    (case aiNoRooms => k_is)
    (case tiNoRooms => k_is)
    (case liNoRooms => k_is)
    (case ciNoRooms => k_is)
    (case kiNoRooms => k_is)
    (case kCNoRooms => k_is)
    (case eCNoRooms => k_is)
    (case tCNoRooms => k_is)
    (case hCNoRooms => k_is)
    (case clNoRooms => k_is)
    (case svNoRooms => k_is)
    (case acNoRooms => k_is)
    (case moNoRooms => k_is)
    (case suNoRooms => k_is)
    (case gNoGuest => k_is)
    (case xlNoGuest => k_is)
    (case saNoGuest => k_is)
    (case gaNoGuest => k_is)
    (case ggNoGuest => k_is)
    (case nwNoGuest => k_is)
    (case aiNoGuest => k_is)
    (case tiNoGuest => k_is)
    (case liNoGuest => k_is)
    (case ciNoGuest => k_is)
    (case kiNoGuest => k_is)
    (case kCNoGuest => k_is)
    (case eCNoGuest => k_is)
    (case tCNoGuest => k_is)
    (case hCNoGuest => k_is)
    (case clNoGuest => k_is)
    (case svNoGuest => k_is)
    (case acNoGuest => k_is)
    (case moNoGuest => k_is)
    (case suNoGuest => k_is)
    (case clNoRoom => k_is)
    (case tCNoRoom => k_is)
    (case clNoText => k_is)
    (case tCNoText => k_is)
    (case suNoCrowdNoRooms => k_is)
    (case neNoCrowdNoRooms => decide)
    (case suNoCrowdNoGuest => k_is)
    (case neNoCrowdNoGuest => decide)
    (case suNoCrowdNoRoom => k_is)
    (case neNoCrowdNoRoom => decide)
    (case suNoCrowdNoText => k_is)
    (case neNoCrowdNoText => decide)
    (case suNoRoomsNoCrowd => k_is)
    (case neNoRoomsNoCrowd => decide)
    (case suNoRoomsNoGuest => k_is)
    (case neNoRoomsNoGuest => decide)
    (case suNoRoomsNoRoom => k_is)
    (case neNoRoomsNoRoom => decide)
    (case suNoRoomsNoText => k_is)
    (case neNoRoomsNoText => decide)
    (case suNoGuestNoCrowd => k_is)
    (case neNoGuestNoCrowd => decide)
    (case suNoGuestNoRooms => k_is)
    (case neNoGuestNoRooms => decide)
    (case suNoGuestNoRoom => k_is)
    (case neNoGuestNoRoom => decide)
    (case suNoGuestNoText => k_is)
    (case neNoGuestNoText => decide)
    (case z1 => k_is)
    (case z2 => k_is)
    (case z3 => k_is)
    (case z4 => k_is)
    (case z5 => k_is)
    (case z6 => k_is)
    (case z7 => k_is)
    (case z8 => k_is)
    (case z9 => k_is)
    (case z10 => k_is)
    (case z11 => k_is)
    (case z12 => k_is)
    (case z13 => k_is)
    (case z14 => k_is)
    (case z15 => k_is)
    (case z16 => k_is)
    (case z17 => k_is)
    (case z18 => k_is)
    (case z19 => k_is)
    (case z20 => k_is)
    (case z21 => k_is)
    (case z22 => k_is)
    (case z23 => k_is)
