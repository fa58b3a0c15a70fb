import PyProof.Rows.All
import Wide.All
import OpenK.AllK
import Wide.FinOn
import HandS.ForMost
import HandS.ForExc
import HandS.Wide
import HandS.SortKw
import HandS.SortRule
import HandS.SortInts
import HandS.Style
import HandS.IsInst
import HandS.Conv
import HandS.Walk
import HandS.Flow
import HandS.More
import HandS.Defaults
import HandS.RaiseMore
import HandS.Remove
import HandS.Star
import HandS.Steps
import HandS.Strs
import HandS.Codes
import HandS.Text
import HandS.StrMore
import HandS.FStr
import HandS.Flow
import KE.IntTextLaws
import HandS.Zip
import PySem.Challenge.RW_elderinn_k52_rooms_written
set_option Elab.async false
set_option linter.all false
set_option maxRecDepth 100000
set_option maxHeartbeats 8000000
namespace El
/-! ### the rule by age, in plain lists -/
def place : List (List Int) → Int → Int → List (List Int)
  | [], a, _ => [[a]]
  | r :: rs, a, p => if (r.length : Int) ≤ p then (r ++ [a]) :: rs else r :: place rs a p
def firstB : List (List Int) → Int → Nat
  | [], _ => 0
  | r :: rs, p => if (r.length : Int) ≤ p then 0 else firstB rs p + 1
theorem firstB_le : ∀ (rs : List (List Int)) (p : Int), firstB rs p ≤ rs.length
  | [], _ => Nat.le_refl _
  | r :: rs, p => by
    unfold firstB
    split
    · exact Nat.zero_le _
    · exact Nat.succ_le_succ (firstB_le rs p)
theorem firstB_out : ∀ (rs : List (List Int)) (p : Int) (i : Nat) (r : List Int), i < firstB rs p → rs[i]? = some r → p < (r.length : Int)
  | [], _, _, _, h, _ => absurd h (Nat.not_lt_zero _)
  | s :: rs, p, i, r, h, e => by
    unfold firstB at h
    split at h
    · exact absurd h (Nat.not_lt_zero _)
    · rename_i hn
      cases i with
      | zero =>
        have e' : s = r := Option.some.inj e
        subst e'
        omega
      | succ i => exact firstB_out rs p i r (Nat.lt_of_succ_lt_succ h) (by simpa using e)
theorem firstB_in : ∀ (rs : List (List Int)) (p : Int), firstB rs p < rs.length → ∃ r, rs[firstB rs p]? = some r ∧ (r.length : Int) ≤ p
  | [], _, h => absurd h (Nat.not_lt_zero _)
  | s :: rs, p, h => by
    unfold firstB at h ⊢
    split
    · rename_i hn
      exact ⟨s, rfl, hn⟩
    · rename_i hn
      rw [if_neg hn] at h
      obtain ⟨r, e, q⟩ := firstB_in rs p (Nat.lt_of_succ_lt_succ h)
      exact ⟨r, by simpa using e, q⟩
theorem firstB_is : ∀ (rs : List (List Int)) (p : Int) (i : Nat), i ≤ rs.length → (∀ j r, j < i → rs[j]? = some r → p < (r.length : Int)) → (∀ r, rs[i]? = some r → (r.length : Int) ≤ p) → firstB rs p = i
  | [], _, i, h, _, _ => by
    have : i = 0 := Nat.le_zero.mp h
    subst this
    rfl
  | s :: rs, p, 0, _, _, h2 => by
    unfold firstB
    rw [if_pos (h2 s rfl)]
  | s :: rs, p, i + 1, h, h1, h2 => by
    have h0 := h1 0 s (Nat.succ_pos _) rfl
    unfold firstB
    rw [if_neg (by omega), firstB_is rs p i (Nat.le_of_succ_le_succ h) (fun j r hj e => h1 (j + 1) r (Nat.succ_lt_succ hj) (by simpa using e)) fun r e => h2 r (by simpa using e)]
theorem place_new : ∀ (rs : List (List Int)) (a p : Int), firstB rs p = rs.length → place rs a p = rs ++ [[a]]
  | [], _, _, _ => rfl
  | r :: rs, a, p, h => by
    unfold firstB at h
    unfold place
    split at h
    · exact absurd h (by rw [List.length_cons]; omega)
    · rename_i hn
      rw [if_neg hn, place_new rs a p (by rw [List.length_cons] at h; omega)]
      rfl
theorem place_at : ∀ (rs : List (List Int)) (a p : Int) (r : List Int), rs[firstB rs p]? = some r → place rs a p = rs.set (firstB rs p) (r ++ [a])
  | [], _, _, _, h => by simp at h
  | s :: rs, a, p, r, h => by
    unfold firstB at h ⊢
    unfold place
    split
    · rename_i hn
      rw [if_pos hn] at h
      have e : s = r := Option.some.inj h
      subst e
      rfl
    · rename_i hn
      rw [if_neg hn] at h
      rw [place_at rs a p r (by simpa using h)]
      rfl
theorem place_len (rs : List (List Int)) (a p : Int) : (place rs a p).length = if firstB rs p = rs.length then rs.length + 1 else rs.length := by
  by_cases h : firstB rs p = rs.length
  · rw [if_pos h, place_new rs a p h, List.length_append]
    rfl
  · have hl := firstB_le rs p
    obtain ⟨r, e, _⟩ := firstB_in rs p (by omega)
    rw [if_neg h, place_at rs a p r e, List.length_set]
/-- all in order -/
def settleL (gs : List (Int × Int)) : List (List Int) := gs.foldl (fun rs g => place rs g.1 g.2) []
theorem settleL_snoc (gs : List (Int × Int)) (g : Int × Int) : settleL (gs ++ [g]) = place (settleL gs) g.1 g.2 := by
  unfold settleL
  rw [List.foldl_append]
  rfl
theorem settleL_take {gs : List (Int × Int)} {i : Nat} {g : Int × Int} (h : gs[i]? = some g) : settleL (gs.take (i + 1)) = place (settleL (gs.take i)) g.1 g.2 := by
  rw [List.take_add_one, h]
  exact settleL_snoc _ _
theorem place_count (rs : List (List Int)) (a p : Int) : (place rs a p).flatten.length = rs.flatten.length + 1 := by
  induction rs with
  | nil => rfl
  | cons r rs ih =>
    unfold place
    split
    · simp only [List.flatten_cons, List.length_append, List.length_cons, List.length_nil]
      omega
    · simp only [List.flatten_cons, List.length_append]
      omega
theorem settleL_count (gs : List (Int × Int)) : (settleL gs).flatten.length = gs.length := by
  suffices h : ∀ (gs : List (Int × Int)) (rs : List (List Int)), (gs.foldl (fun rs g => place rs g.1 g.2) rs).flatten.length = rs.flatten.length + gs.length by
    have q := h gs []
    rw [List.flatten_nil, List.length_nil, Nat.zero_add] at q
    exact q
  intro gs
  induction gs with
  | nil => intro rs; rfl
  | cons g gs ih =>
    intro rs
    rw [List.foldl_cons, ih, place_count, List.length_cons]
    omega
theorem place_ne (rs : List (List Int)) (a p : Int) (h : ∀ r ∈ rs, r ≠ []) : ∀ r ∈ place rs a p, r ≠ [] := by
  induction rs with
  | nil =>
    intro r hr
    rw [List.mem_singleton.mp hr]
    exact List.cons_ne_nil _ _
  | cons s rs ih =>
    unfold place
    split
    · intro r hr
      rcases List.mem_cons.mp hr with e | hr
      · rw [e]
        simp
      · exact h r (List.mem_cons_of_mem _ hr)
    · intro r hr
      rcases List.mem_cons.mp hr with e | hr
      · rw [e]
        exact h s List.mem_cons_self
      · exact ih (fun r hr => h r (List.mem_cons_of_mem _ hr)) r hr
theorem settleL_ne (gs : List (Int × Int)) : ∀ r ∈ settleL gs, r ≠ [] := by
  suffices h : ∀ (gs : List (Int × Int)) (rs : List (List Int)), (∀ r ∈ rs, r ≠ []) → ∀ r ∈ gs.foldl (fun rs g => place rs g.1 g.2) rs, r ≠ [] from h gs [] (fun r hr => absurd hr (by simp))
  intro gs
  induction gs with
  | nil => intro rs h; exact h
  | cons g gs ih =>
    intro rs h
    rw [List.foldl_cons]
    exact ih _ (place_ne rs _ _ h)
theorem len_le_flat : ∀ (rs : List (List Int)), (∀ r ∈ rs, r ≠ []) → rs.length ≤ rs.flatten.length
  | [], _ => Nat.le_refl _
  | r :: rs, h => by
    have h1 := h r List.mem_cons_self
    have h2 := len_le_flat rs fun r hr => h r (List.mem_cons_of_mem _ hr)
    have h3 : 0 < r.length := List.length_pos_iff.mpr h1
    rw [List.flatten_cons, List.length_append, List.length_cons]
    omega
theorem room_le_flat : ∀ (rs : List (List Int)) (r : List Int), r ∈ rs → r.length ≤ rs.flatten.length
  | s :: rs, r, h => by
    rw [List.flatten_cons, List.length_append]
    rcases List.mem_cons.mp h with e | h
    · rw [e]
      omega
    · have := room_le_flat rs r h
      omega
theorem settleL_len (gs : List (Int × Int)) : (settleL gs).length ≤ gs.length := by
  rw [← settleL_count gs]
  exact len_le_flat _ (settleL_ne gs)
theorem settleL_room {gs : List (Int × Int)} {r : List Int} (h : r ∈ settleL gs) : r.length ≤ gs.length := by
  rw [← settleL_count gs]
  exact room_le_flat _ _ h
/-- sizes never rise -/
def Falls (rs : List (List Int)) : Prop := rs.Pairwise fun r s => s.length ≤ r.length
theorem place_mem {rs : List (List Int)} {a p : Int} {r : List Int} (h : r ∈ place rs a p) : r ∈ rs ∨ (∃ s ∈ rs, r = s ++ [a] ∧ (s.length : Int) ≤ p) ∨ r = [a] := by
  induction rs with
  | nil => exact .inr (.inr (List.mem_singleton.mp h))
  | cons s rs ih =>
    unfold place at h
    split at h
    · rename_i hn
      rcases List.mem_cons.mp h with e | h
      · exact .inr (.inl ⟨s, List.mem_cons_self, e, hn⟩)
      · exact .inl (List.mem_cons_of_mem _ h)
    · rcases List.mem_cons.mp h with e | h
      · rw [e]
        exact .inl List.mem_cons_self
      · rcases ih h with q | ⟨t, ht, q⟩ | q
        · exact .inl (List.mem_cons_of_mem _ q)
        · exact .inr (.inl ⟨t, List.mem_cons_of_mem _ ht, q⟩)
        · exact .inr (.inr q)
theorem place_falls (rs : List (List Int)) (a p : Int) (hp : 0 ≤ p) (h : Falls rs) : Falls (place rs a p) := by
  induction rs with
  | nil => exact List.pairwise_singleton _ _
  | cons s rs ih =>
    obtain ⟨h1, h2⟩ := List.pairwise_cons.mp h
    unfold place
    split
    · refine List.pairwise_cons.mpr ⟨fun r hr => ?_, h2⟩
      have := h1 r hr
      rw [List.length_append]
      omega
    · rename_i hn
      refine List.pairwise_cons.mpr ⟨fun r hr => ?_, ih h2⟩
      rcases place_mem hr with q | ⟨t, ht, q, q2⟩ | q
      · exact h1 r q
      · rw [q, List.length_append, List.length_singleton]
        omega
      · rw [q, List.length_singleton]
        omega
theorem settleL_falls (gs : List (Int × Int)) (h : ∀ g ∈ gs, 0 ≤ g.2) : Falls (settleL gs) := by
  suffices q : ∀ (gs : List (Int × Int)) (rs : List (List Int)), (∀ g ∈ gs, 0 ≤ g.2) → Falls rs → Falls (gs.foldl (fun rs g => place rs g.1 g.2) rs) from q gs [] h List.Pairwise.nil
  intro gs
  induction gs with
  | nil => intro rs _ hr; exact hr
  | cons g gs ih =>
    intro rs hg hr
    rw [List.foldl_cons]
    exact ih _ (fun x hx => hg x (List.mem_cons_of_mem _ hx)) (place_falls rs _ _ (hg g List.mem_cons_self) hr)
/-! ### from the eldest on -/
def byAge (gs : List (Int × Int)) : List (Int × Int) := gs.mergeSort fun g h => decide (h.1 ≤ g.1)
theorem byAge_perm (gs : List (Int × Int)) : (byAge gs).Perm gs := List.mergeSort_perm _ _
theorem byAge_sorted (gs : List (Int × Int)) : (byAge gs).Pairwise fun g h => h.1 ≤ g.1 := by
  have q := List.pairwise_mergeSort (le := fun (g h : Int × Int) => decide (h.1 ≤ g.1)) (fun a b c h1 h2 => by
    have h1 := of_decide_eq_true h1
    have h2 := of_decide_eq_true h2
    exact decide_eq_true (by omega)) (fun a b => by
    by_cases h : b.1 ≤ a.1
    · simp [h]
    · have : a.1 ≤ b.1 := by omega
      simp [this]) gs
  exact q.imp fun h => of_decide_eq_true h
theorem byAge_length (gs : List (Int × Int)) : (byAge gs).length = gs.length := (byAge_perm gs).length_eq
theorem sorted_uniq {α : Type} (k : α → Int) : ∀ {l m : List α}, l.Perm m → (l.map k).Nodup → l.Pairwise (fun g h => k h ≤ k g) → m.Pairwise (fun g h => k h ≤ k g) → l = m
  | [], m, p, _, _, _ => by rw [List.nil_perm.mp p]
  | x :: l, [], p, _, _, _ => absurd p.length_eq (by simp)
  | x :: l, y :: m, p, nd, h1, h2 => by
    have nd' : (k x :: l.map k).Nodup := nd
    obtain ⟨n1, n2⟩ := List.nodup_cons.mp nd'
    obtain ⟨a1, a2⟩ := List.pairwise_cons.mp h1
    obtain ⟨b1, b2⟩ := List.pairwise_cons.mp h2
    have e : x = y := by
      rcases List.mem_cons.mp (p.mem_iff.mp List.mem_cons_self) with e | hx
      · exact e
      · have hy : y ∈ x :: l := p.mem_iff.mpr List.mem_cons_self
        rcases List.mem_cons.mp hy with e | hy
        · exact e.symm
        · have c1 := b1 x hx
          have c2 := a1 y hy
          have c3 : k x = k y := by omega
          exact absurd (List.mem_map.mpr ⟨y, hy, c3.symm⟩) n1
    subst e
    rw [sorted_uniq k (List.Perm.cons_inv p) n2 a2 b2]
def settle (gs : List (Int × Int)) : List (List Int) := settleL (byAge gs)
/-- guests that there can be -/
structure Fit (gs : List (Int × Int)) : Prop where
  nd : (gs.map (·.1)).Nodup
  pos : ∀ g ∈ gs, 0 ≤ g.2
theorem Fit.perm {gs hs : List (Int × Int)} (f : Fit gs) (p : hs.Perm gs) : Fit hs := ⟨((p.map (·.1)).nodup_iff).mpr f.nd, fun g hg => f.pos g (p.mem_iff.mp hg)⟩
theorem Fit.byAge {gs : List (Int × Int)} (f : Fit gs) : Fit (byAge gs) := f.perm (byAge_perm gs)
theorem byAge_of {gs hs : List (Int × Int)} (f : Fit gs) (p : hs.Perm gs) (h : hs.Pairwise fun g h => h.1 ≤ g.1) : hs = byAge gs :=
  sorted_uniq (·.1) (p.trans (byAge_perm gs).symm) (f.perm p).nd h (byAge_sorted gs)
theorem byAge_congr {gs hs : List (Int × Int)} (f : Fit gs) (p : hs.Perm gs) : byAge hs = byAge gs :=
  byAge_of f ((byAge_perm hs).trans p) (byAge_sorted hs)
theorem ages_of {gs : List (Int × Int)} (f : Fit gs) {ns : List Int} (p : ns.Perm (gs.map (·.1))) (h : ns.Pairwise (· ≥ ·)) : ns = (byAge gs).map (·.1) := by
  refine sorted_uniq (fun x : Int => x) (p.trans ((byAge_perm gs).map (·.1)).symm) ?_ (h.imp fun q => q) ?_
  · rw [List.map_id']
    exact (p.nodup_iff).mpr f.nd
  · rw [List.pairwise_map]
    exact byAge_sorted gs
theorem settle_congr {gs hs : List (Int × Int)} (f : Fit gs) (p : hs.Perm gs) : settle hs = settle gs := by
  unfold settle
  rw [byAge_congr f p]
end El
namespace El
/-! ### who has more elders than they bear -/
def down (ns : List Int) : List Int := ns.mergeSort fun a b => decide (b ≤ a)
theorem down_perm (ns : List Int) : (down ns).Perm ns := List.mergeSort_perm _ _
theorem down_sorted (ns : List Int) : (down ns).Pairwise (· ≥ ·) := by
  have q := List.pairwise_mergeSort (le := fun (g h : Int) => decide (h ≤ g)) (fun a b c h1 h2 => by
    have h1 := of_decide_eq_true h1
    have h2 := of_decide_eq_true h2
    exact decide_eq_true (by omega)) (fun a b => by
    by_cases h : b ≤ a
    · simp [h]
    · have : a ≤ b := by omega
      simp [this]) ns
  exact q.imp fun h => of_decide_eq_true h
theorem desc_uniq : ∀ {l m : List Int}, l.Perm m → l.Pairwise (· ≥ ·) → m.Pairwise (· ≥ ·) → l = m
  | [], m, p, _, _ => by rw [List.nil_perm.mp p]
  | x :: l, [], p, _, _ => absurd p.length_eq (by simp)
  | x :: l, y :: m, p, h1, h2 => by
    obtain ⟨a1, a2⟩ := List.pairwise_cons.mp h1
    obtain ⟨b1, b2⟩ := List.pairwise_cons.mp h2
    have e : x = y := by
      rcases List.mem_cons.mp (p.mem_iff.mp List.mem_cons_self) with e | hx
      · exact e
      · have hy : y ∈ x :: l := p.mem_iff.mpr List.mem_cons_self
        rcases List.mem_cons.mp hy with e | hy
        · exact e.symm
        · have c1 := b1 x hx
          have c2 := a1 y hy
          omega
    subst e
    rw [desc_uniq (List.Perm.cons_inv p) a2 b2]
theorem down_is {l ns : List Int} (p : l.Perm ns) (h : l.Pairwise (· ≥ ·)) : l = down ns := desc_uniq (p.trans (down_perm ns).symm) h (down_sorted ns)
def pof (gs : List (Int × Int)) (a : Int) : Int := match gs.find? fun g => decide (g.1 = a) with | some g => g.2 | none => 0
theorem pof_is : ∀ {gs : List (Int × Int)} {g : Int × Int}, (gs.map (·.1)).Nodup → g ∈ gs → pof gs g.1 = g.2
  | x :: gs, g, nd, h => by
    have nd' : (x.1 :: gs.map (·.1)).Nodup := nd
    obtain ⟨n1, n2⟩ := List.nodup_cons.mp nd'
    rcases List.mem_cons.mp h with e | h
    · subst e
      unfold pof
      rw [List.find?_cons_of_pos (by simp)]
    · have n : ¬ x.1 = g.1 := fun z => n1 (by rw [z]; exact List.mem_map.mpr ⟨g, h, rfl⟩)
      have := pof_is n2 h
      unfold pof at this ⊢
      rw [List.find?_cons_of_neg (by simpa using n)]
      exact this
def upIn (pf : Int → Int) : List Int → Nat → Option Int
  | [], _ => none
  | a :: l, i => if pf a < (i : Int) then some a else upIn pf l (i + 1)
theorem upIn_none {pf : Int → Int} : ∀ {l : List Int} {k : Nat}, (∀ (i : Nat) (a : Int), l[i]? = some a → ((i + k : Nat) : Int) ≤ pf a) → upIn pf l k = none
  | [], _, _ => rfl
  | a :: l, k, h => by
    unfold upIn
    have h0 := h 0 a rfl
    rw [if_neg (by omega)]
    exact upIn_none fun i b e => by
      have := h (i + 1) b (by simpa using e)
      omega
theorem upIn_at {pf : Int → Int} {l : List Int} {a : Int} : ∀ {i k : Nat}, l[i]? = some a → (∀ (j : Nat) (b : Int), j < i → l[j]? = some b → ((j + k : Nat) : Int) ≤ pf b) → pf a < ((i + k : Nat) : Int) → upIn pf l k = some a := by
  induction l with
  | nil => intro i k e; simp at e
  | cons x l ih =>
    intro i k e h1 h2
    unfold upIn
    cases i with
    | zero =>
      obtain rfl : x = a := Option.some.inj e
      rw [if_pos (by omega)]
    | succ i =>
      have h0 := h1 0 x (Nat.succ_pos _) rfl
      rw [if_neg (by omega)]
      exact ih (i := i) (by simpa using e) (fun j b hj e' => by
        have := h1 (j + 1) b (Nat.succ_lt_succ hj) (by simpa using e')
        omega) (by omega)
def eldUp (gs : List (Int × Int)) (ns : List Int) : Option Int := upIn (pof gs) (down ns) 0
def upsetOf (gs : List (Int × Int)) : List (List Int) → Nat → Option (Nat × Int)
  | [], _ => none
  | r :: rs, i => match eldUp gs r with | some a => some (i, a) | none => upsetOf gs rs (i + 1)
theorem upsetOf_none {gs : List (Int × Int)} : ∀ {rs : List (List Int)} {k : Nat}, (∀ r ∈ rs, eldUp gs r = none) → upsetOf gs rs k = none
  | [], _, _ => rfl
  | r :: rs, k, h => by
    unfold upsetOf
    rw [h r List.mem_cons_self]
    exact upsetOf_none fun s m => h s (List.mem_cons_of_mem _ m)
theorem upsetOf_at {gs : List (Int × Int)} {rs : List (List Int)} {r : List Int} {a : Int} : ∀ {i k : Nat}, rs[i]? = some r → (∀ (j : Nat) (s : List Int), j < i → rs[j]? = some s → eldUp gs s = none) → eldUp gs r = some a → upsetOf gs rs k = some (i + k, a) := by
  induction rs with
  | nil => intro i k e; simp at e
  | cons x rs ih =>
    intro i k e h1 h2
    unfold upsetOf
    cases i with
    | zero =>
      obtain rfl : x = r := Option.some.inj e
      rw [h2, Nat.zero_add]
    | succ i =>
      rw [h1 0 x (Nat.succ_pos _) rfl]
      have z := ih (i := i) (k := k + 1) (by simpa using e) (fun j b hj e' => h1 (j + 1) b (Nat.succ_lt_succ hj) (by simpa using e')) h2
      show upsetOf gs rs (k + 1) = _
      rw [z, show i + (k + 1) = i + 1 + k by omega]
/-! ### the rooms by age are in peace -/
def Fine (L : List (Int × Int)) (r : List Int) : Prop := r.Pairwise (· ≥ ·) ∧ ∀ (i : Nat) (a : Int), r[i]? = some a → ∃ g ∈ L, g.1 = a ∧ (i : Int) ≤ g.2
theorem Fine.mem {L : List (Int × Int)} {r : List Int} (h : Fine L r) {a : Int} (m : a ∈ r) : ∃ g ∈ L, g.1 = a := by
  obtain ⟨i, e⟩ := List.mem_iff_getElem?.mp m
  obtain ⟨g, h1, h2, _⟩ := h.2 i a e
  exact ⟨g, h1, h2⟩
theorem Fine.more {L M : List (Int × Int)} {r : List Int} (h : Fine L r) (k : ∀ g ∈ L, g ∈ M) : Fine M r := ⟨h.1, fun i a e => by
  obtain ⟨g, h1, h2⟩ := h.2 i a e
  exact ⟨g, k g h1, h2⟩⟩
theorem settleL_fine {L : List (Int × Int)} (hL : L.Pairwise fun g h => h.1 ≤ g.1) (hp : ∀ g ∈ L, 0 ≤ g.2) : ∀ i, i ≤ L.length → ∀ r ∈ settleL (L.take i), Fine (L.take i) r
  | 0, _, r, hr => by
    rw [List.take_zero] at hr
    exact absurd hr (List.not_mem_nil)
  | i + 1, hi, r, hr => by
    have ih := settleL_fine hL hp i (by omega)
    have eg : L[i]? = some L[i] := List.getElem?_eq_getElem hi
    generalize hg : L[i] = g at eg
    have hm : g ∈ L := List.mem_of_getElem? eg
    have hle : ∀ x ∈ L.take i, g.1 ≤ x.1 := by
      have e2 : L = L.take i ++ g :: L.drop (i + 1) := by
        have := List.getElem_cons_drop (as := L) (i := i) hi
        rw [hg] at this
        rw [this, List.take_append_drop]
      rw [e2] at hL
      exact fun x hx => (List.pairwise_append.mp hL).2.2 x hx g List.mem_cons_self
    have et : L.take (i + 1) = L.take i ++ [g] := by
      rw [List.take_add_one, eg]
      rfl
    rw [settleL_take eg] at hr
    rw [et]
    rcases place_mem hr with q | ⟨s, hs, e, hle2⟩ | q
    · exact (ih r q).more fun x hx => List.mem_append_left _ hx
    · have hF := ih s hs
      subst e
      refine ⟨?_, fun j a e => ?_⟩
      · rw [List.pairwise_append]
        refine ⟨hF.1, List.pairwise_singleton _ _, fun x hx y hy => ?_⟩
        rw [List.mem_singleton.mp hy]
        obtain ⟨z, hz, rfl⟩ := hF.mem hx
        exact hle z hz
      · by_cases hj : j < s.length
        · rw [List.getElem?_append_left hj] at e
          obtain ⟨z, h1, h2⟩ := hF.2 j a e
          exact ⟨z, List.mem_append_left _ h1, h2⟩
        · rw [List.getElem?_append_right (by omega)] at e
          have hj0 : j - s.length = 0 := by
            have := (List.getElem?_eq_some_iff.mp e).1
            rw [List.length_singleton] at this
            omega
          rw [hj0] at e
          obtain rfl : g.1 = a := Option.some.inj e
          exact ⟨g, List.mem_append_right _ (List.mem_singleton.mpr rfl), rfl, by omega⟩
    · subst q
      refine ⟨List.pairwise_singleton _ _, fun j a e => ?_⟩
      have hj0 : j = 0 := by
        have := (List.getElem?_eq_some_iff.mp e).1
        rw [List.length_singleton] at this
        omega
      subst hj0
      obtain rfl : g.1 = a := Option.some.inj e
      exact ⟨g, List.mem_append_right _ (List.mem_singleton.mpr rfl), rfl, hp g hm⟩
theorem settle_fine {gs : List (Int × Int)} (f : Fit gs) {r : List Int} (hr : r ∈ settle gs) : Fine gs r := by
  have h := settleL_fine (byAge_sorted gs) f.byAge.pos (byAge gs).length (Nat.le_refl _) r (by rw [List.take_length]; exact hr)
  rw [List.take_length] at h
  exact h.more fun g hg => (byAge_perm gs).mem_iff.mp hg
theorem settle_calm {gs : List (Int × Int)} (f : Fit gs) {r : List Int} (hr : r ∈ settle gs) : eldUp gs r = none := by
  obtain ⟨h1, h2⟩ := settle_fine f hr
  unfold eldUp
  rw [← down_is (List.Perm.refl r) h1]
  refine upIn_none fun i a e => ?_
  obtain ⟨g, hg, rfl, hl⟩ := h2 i a e
  rw [pof_is f.nd hg]
  exact hl
theorem place_perm : ∀ (rs : List (List Int)) (a p : Int), (place rs a p).flatten.Perm (a :: rs.flatten)
  | [], a, p => List.Perm.refl _
  | r :: rs, a, p => by
    unfold place
    split
    · rw [List.flatten_cons, List.flatten_cons, List.append_assoc]
      exact List.perm_middle
    · rw [List.flatten_cons, List.flatten_cons]
      exact ((place_perm rs a p).append_left r).trans List.perm_middle
theorem foldl_place_perm : ∀ (L : List (Int × Int)) (rs : List (List Int)), (L.foldl (fun rs g => place rs g.1 g.2) rs).flatten.Perm (L.map (·.1) ++ rs.flatten)
  | [], rs => List.Perm.refl _
  | g :: L, rs => by
    rw [List.foldl_cons]
    refine (foldl_place_perm L _).trans (((place_perm rs g.1 g.2).append_left _).trans ?_)
    rw [List.map_cons, List.cons_append]
    exact List.perm_middle
theorem settle_flat (gs : List (Int × Int)) : (settle gs).flatten.Perm (gs.map (·.1)) := by
  have h := foldl_place_perm (byAge gs) []
  rw [List.flatten_nil, List.append_nil] at h
  exact h.trans ((byAge_perm gs).map _)
/-! ### those behind the first j rooms -/
theorem take_place_lt : ∀ (rs : List (List Int)) (a p : Int) (j : Nat), firstB rs p < j → (place rs a p).take j = place (rs.take j) a p
  | _, _, _, 0, h => absurd h (Nat.not_lt_zero _)
  | [], a, p, j + 1, _ => by
    rw [List.take_nil]
    unfold place
    rw [List.take_succ_cons, List.take_nil]
  | r :: rs, a, p, j + 1, h => by
    unfold firstB at h
    rw [List.take_succ_cons]
    unfold place
    split at h
    · rename_i q
      rw [if_pos q, if_pos q, List.take_succ_cons]
    · rename_i q
      rw [if_neg q, if_neg q, List.take_succ_cons, take_place_lt rs a p j (by omega)]
theorem take_place_ge : ∀ (rs : List (List Int)) (a p : Int) (j : Nat), j ≤ firstB rs p → (place rs a p).take j = rs.take j
  | _, _, _, 0, _ => by rw [List.take_zero, List.take_zero]
  | [], a, p, j + 1, h => absurd h (Nat.not_succ_le_zero _)
  | r :: rs, a, p, j + 1, h => by
    unfold firstB at h
    unfold place
    split at h
    · exact absurd h (Nat.not_succ_le_zero _)
    · rename_i q
      rw [if_neg q, List.take_succ_cons, List.take_succ_cons, take_place_ge rs a p j (by omega)]
theorem drop_place_lt : ∀ (rs : List (List Int)) (a p : Int) (j : Nat), firstB rs p < j → (place rs a p).drop j = rs.drop j
  | _, _, _, 0, h => absurd h (Nat.not_lt_zero _)
  | [], a, p, j + 1, _ => by
    unfold place
    rw [List.drop_succ_cons, List.drop_nil, List.drop_nil]
  | r :: rs, a, p, j + 1, h => by
    unfold firstB at h
    unfold place
    split at h
    · rename_i q
      rw [if_pos q, List.drop_succ_cons, List.drop_succ_cons]
    · rename_i q
      rw [if_neg q, List.drop_succ_cons, List.drop_succ_cons, drop_place_lt rs a p j (by omega)]
theorem drop_place_ge : ∀ (rs : List (List Int)) (a p : Int) (j : Nat), j ≤ firstB rs p → (place rs a p).drop j = place (rs.drop j) a p
  | _, _, _, 0, _ => by rw [List.drop_zero, List.drop_zero]
  | [], a, p, j + 1, h => absurd h (Nat.not_succ_le_zero _)
  | r :: rs, a, p, j + 1, h => by
    unfold firstB at h
    split at h
    · exact absurd h (Nat.not_succ_le_zero _)
    · rename_i q
      rw [List.drop_succ_cons]
      show (if (r.length : Int) ≤ p then (r ++ [a]) :: rs else r :: place rs a p).drop (j + 1) = _
      rw [if_neg q, List.drop_succ_cons, drop_place_ge rs a p j (by omega)]
def kept (j : Nat) : List (List Int) → List (Int × Int) → List (Int × Int)
  | _, [] => []
  | rs, g :: L => if firstB rs g.2 < j then g :: kept j (place rs g.1 g.2) L else kept j (place rs g.1 g.2) L
def gone (j : Nat) : List (List Int) → List (Int × Int) → List (Int × Int)
  | _, [] => []
  | rs, g :: L => if firstB rs g.2 < j then gone j (place rs g.1 g.2) L else g :: gone j (place rs g.1 g.2) L
theorem gone_sub (j : Nat) : ∀ (L : List (Int × Int)) (rs : List (List Int)), ∀ g ∈ gone j rs L, g ∈ L
  | [], _, g, h => h
  | x :: L, rs, g, h => by
    unfold gone at h
    split at h
    · exact List.mem_cons_of_mem _ (gone_sub j L _ g h)
    · rcases List.mem_cons.mp h with e | h
      · rw [e]
        exact List.mem_cons_self
      · exact List.mem_cons_of_mem _ (gone_sub j L _ g h)
theorem kept_settle (j : Nat) : ∀ (L : List (Int × Int)) (rs : List (List Int)), (kept j rs L).foldl (fun rs g => place rs g.1 g.2) (rs.take j) = (L.foldl (fun rs g => place rs g.1 g.2) rs).take j
  | [], _ => rfl
  | g :: L, rs => by
    rw [List.foldl_cons]
    unfold kept
    split
    · rename_i h
      rw [List.foldl_cons, ← take_place_lt rs g.1 g.2 j h]
      exact kept_settle j L _
    · rename_i h
      rw [← take_place_ge rs g.1 g.2 j (by omega)]
      exact kept_settle j L _
theorem gone_settle (j : Nat) : ∀ (L : List (Int × Int)) (rs : List (List Int)), ((L.foldl (fun rs g => place rs g.1 g.2) rs).drop j).flatten.Perm ((gone j rs L).map (·.1) ++ (rs.drop j).flatten)
  | [], _ => List.Perm.refl _
  | g :: L, rs => by
    rw [List.foldl_cons]
    refine (gone_settle j L _).trans ?_
    show ((gone j (place rs g.1 g.2) L).map (·.1) ++ _).Perm ((if firstB rs g.2 < j then gone j (place rs g.1 g.2) L else g :: gone j (place rs g.1 g.2) L).map (·.1) ++ _)
    split
    · rename_i h
      rw [drop_place_lt rs g.1 g.2 j h]
    · rename_i h
      rw [drop_place_ge rs g.1 g.2 j (by omega), List.map_cons, List.cons_append]
      exact ((place_perm (rs.drop j) g.1 g.2).append_left _).trans List.perm_middle
theorem kept_filter (j : Nat) : ∀ (L : List (Int × Int)) (rs : List (List Int)) (S : List Int), (L.map (·.1)).Nodup → (∀ g ∈ L, g.1 ∈ S ↔ g.1 ∈ (gone j rs L).map (·.1)) → L.filter (fun g => !decide (g.1 ∈ S)) = kept j rs L
  | [], _, _, _, _ => rfl
  | g :: L, rs, S, nd, h => by
    have nd' : (g.1 :: L.map (·.1)).Nodup := nd
    obtain ⟨n1, n2⟩ := List.nodup_cons.mp nd'
    have h0 := h g List.mem_cons_self
    unfold kept
    by_cases q : firstB rs g.2 < j
    · have eg : gone j rs (g :: L) = gone j (place rs g.1 g.2) L := by
        show (if _ then _ else _) = _
        rw [if_pos q]
      rw [eg] at h h0
      have ng : ¬ g.1 ∈ S := fun z => by
        obtain ⟨x, hx, e⟩ := List.mem_map.mp (h0.mp z)
        exact n1 (List.mem_map.mpr ⟨x, gone_sub j L _ x hx, e⟩)
      rw [if_pos q, List.filter_cons_of_pos (by simpa using ng), kept_filter j L _ S n2 fun x hx => h x (List.mem_cons_of_mem _ hx)]
    · have eg : gone j rs (g :: L) = g :: gone j (place rs g.1 g.2) L := by
        show (if _ then _ else _) = _
        rw [if_neg q]
      rw [eg] at h h0
      have ng : g.1 ∈ S := h0.mpr List.mem_cons_self
      rw [if_neg q, List.filter_cons_of_neg (by simpa using ng)]
      refine kept_filter j L _ S n2 fun x hx => ?_
      have hx1 := h x (List.mem_cons_of_mem _ hx)
      rw [hx1, List.map_cons, List.mem_cons]
      have ne : ¬ x.1 = g.1 := fun z => n1 (by rw [← z]; exact List.mem_map.mpr ⟨x, hx, rfl⟩)
      exact ⟨fun z => z.resolve_left ne, .inr⟩
theorem Fit.filter {gs : List (Int × Int)} (f : Fit gs) (k : Int × Int → Bool) : Fit (gs.filter k) :=
  ⟨f.nd.sublist (List.filter_sublist.map _), fun g hg => f.pos g (List.mem_filter.mp hg).1⟩
theorem byAge_filter {gs : List (Int × Int)} (f : Fit gs) (k : Int × Int → Bool) : byAge (gs.filter k) = (byAge gs).filter k :=
  (byAge_of (f.filter k) ((byAge_perm gs).filter k) ((byAge_sorted gs).sublist List.filter_sublist)).symm
theorem settle_left {gs : List (Int × Int)} (f : Fit gs) {S : List Int} {j : Nat} (h : ∀ a, a ∈ S ↔ a ∈ ((settle gs).drop j).flatten) : settle (gs.filter fun g => !decide (g.1 ∈ S)) = (settle gs).take j := by
  unfold settle
  rw [byAge_filter f]
  have hg := gone_settle j (byAge gs) []
  rw [List.drop_nil, List.flatten_nil, List.append_nil] at hg
  rw [kept_filter j (byAge gs) [] S f.byAge.nd fun g _ => (h g.1).trans hg.mem_iff]
  have := kept_settle j (byAge gs) []
  rw [List.take_nil] at this
  exact this
def sentAway (gs : List (Int × Int)) (j : Nat) : List Int := down ((settle gs).drop j).flatten
theorem sentAway_mem (gs : List (Int × Int)) (j : Nat) (a : Int) : a ∈ sentAway gs j ↔ a ∈ ((settle gs).drop j).flatten := (down_perm _).mem_iff
end El
namespace El
open PySem PySem.Spec PyProof.Rows L2
/-! ### a def of the text as callers see it -/
structure Df (P : Program) (w : World) (K : PySem.W.Frag) (mg : Str → Option Value) (base : Heap) (k : Nat) (x : Str) (ps : List Str) (st : Stmt) (sp : Sp) : Prop where
  ex : ∃ (f : Addr) (fd : FuncData), Fun K x x st f fd ∧ mg x = some (.ref f) ∧ FnOk P w K mg base CX0 k f fd ps sp ∧ Binds K fd ps []
/-- where a def stands -/
structure At (K : PySem.W.Frag) (mg : Str → Option Value) (x : Str) (ps : List Str) (st : Stmt) : Prop where
  ex : ∃ (f : Addr) (fd : FuncData), Fun K x x st f fd ∧ mg x = some (.ref f) ∧ Binds K fd ps []
theorem At.df {P : Program} {w : World} {K : PySem.W.Frag} {mg : Str → Option Value} {base : Heap} {k : Nat} {x : Str} {ps : List Str} {st : Stmt} {sp : Sp} (A : At K mg x ps st)
    (h : ∀ f fd, Fun K x x st f fd → FnOk P w K mg base CX0 k f fd ps sp) : Df P w K mg base k x ps st sp := by
  obtain ⟨f, fd, F, m, b⟩ := A.ex
  exact ⟨f, fd, F, m, h f fd F, b⟩
section
variable {X : Cx} {k : Nat} {x : Str} {ps : List Str} {st : Stmt} {sp : Sp} {p pos : Pos} {e : Expr} {es : List Expr} {kws : List Keyword} {t tk : TA}
theorem pe_df (D : Df X.prog X.w X.K X.mg X.base k x ps st sp) (hr : Room k X.A) (hg : Gl X x) (ha : PA X (e :: es) t) (hdb : (x == ("__debug__" : Str)) = false := by decide)
    (he : starEach (e :: es) X.env = (false, eval e X.env) :: starEach es X.env := by rfl) (hpl : (backTo pos (starEach es X.env)).any (·.1) = false := by rfl) : PE X (.Call (.Name x p) (e :: es) [] pos) (tCall sp [] E0 t) := by
  obtain ⟨f, fd, F, m, G, b⟩ := D.ex
  exact pe_call G hr hg m F.kp b .nil pass0 ha hdb he hpl
theorem pe_df0 (D : Df X.prog X.w X.K X.mg X.base k x ps st sp) (hr : Room k X.A) (hg : Gl X x) (hdb : (x == ("__debug__" : Str)) = false := by decide) : PE X (.Call (.Name x p) [] [] pos) (tCall sp [] E0 tNil) := by
  obtain ⟨f, fd, F, m, G, b⟩ := D.ex
  exact pe_call0 G hr hg m F.kp b .nil pass0 hdb
def tCallW (n : Nat) (sp : Sp) (g : List V → List V) (tk : TA) : TE := fun σ H Q => tk σ H fun zs H2 => zs.length = n ∧ sp (g zs) H2 Q E0
/-- f(k = v, ..): keywords alone -/
theorem pe_dfK (D : Df X.prog X.w X.K X.mg X.base k x ps st sp) (ks : List Str) (g : {α : Type} → List α → List α) (hr : Room k X.A) (hg : Gl X x) (hkw : PK X kws tk)
    (hb : ∀ (kV doc pm : Value) (an : Option Addr) (cdv ct : Value) (ws : List Value), ws.length = ks.length → bindArgs (PySem.W.fnOf x x (defArgs st) (defBody st) (defScope st) .none kV doc pm an cdv ct) ⟨[], ks.zip ws⟩ = pure (ps.zip (g ws)))
    (hrel : ∀ {zs : List V} {ws : List Value}, Vals zs ws → Vals (g zs) (g ws))
    (hall : (backToKw pos (keywordEach kws X.env)).all (·.1.isSome) = true := by rfl) (hks : (backToKw pos (keywordEach kws X.env)).filterMap (·.1) = ks := by rfl) (hdb : (x == ("__debug__" : Str)) = false := by decide)
    (hpl : ((backTo pos (starEach [] X.env)).any (·.1) || (backToKw pos (keywordEach kws X.env)).any (·.1.isNone)) = false := by rfl) :
    PE X (.Call (.Name x p) [] kws pos) (tCallW ks.length sp (fun zs => g zs) tk) := by
  obtain ⟨f, fd, F, m, G, b⟩ := D.ex
  have kp := F.kp
  have KB : KBn X.K fd ps 0 ks (fun us ws => us ++ g ws) (fun vs zs => vs ++ g zs) := by
    obtain ⟨oc, od, kV, doc, pm, an, cdv, ct, osl, rfl, lk, hcd⟩ := F.ex
    refine ⟨fun s us ws hK l1 l2 => ?_, fun {vs us zs ws} r rz => Vals.append r (hrel rz)⟩
    obtain rfl := List.eq_nil_of_length_eq_zero l1
    exact .of_eq (hb kV doc pm an cdv ct ws l2)
  refine ⟨fun pins s σ H Q I h => ?_⟩
  refine wpAny_Call_Name_kw (ld_glob I hg m ?_ hdb)
  refine PySem.W.callWith_KW0 (h₀ := X.base) I.ok.mod.kin kp hall ?_ hpl
  refine thn (hkw.run pos pins s σ H _ I h) fun ws s2 ⟨zs, H2, I2, rz, l2, q2⟩ => ⟨I2.kIn, ?_⟩
  rw [hks]
  exact run_fnN (us := []) (vs := []) G hr KB pass0 I2 .nil rz rfl l2 q2
end
theorem Df.at {P : Program} {w : World} {K : PySem.W.Frag} {mg : Str → Option Value} {base : Heap} {k : Nat} {x : Str} {ps : List Str} {st : Stmt} {sp : Sp} {fa : Addr} {fd : FuncData} {oc : Value} {od : Option Addr} {sl : Array (Option Value)}
    (D : Df P w K mg base k x ps st sp) (hf : mg x = some (.ref fa)) (l : K.lookup fa = some ⟨oc, od, .func fd, sl⟩) : FnOk P w K mg base CX0 k fa fd ps sp := by
  obtain ⟨f, fd', F, m, G, b⟩ := D.ex
  obtain rfl : fa = f := by
    have e := hf.symm.trans m
    injection e with e
    injection e
  obtain ⟨oc', od', kV, doc, pm, an, cdv, ct, osl, e1, lk, hcd⟩ := F.ex
  have e := l.symm.trans lk
  injection e with e
  injection e with _ _ e _
  injection e with e
  rw [e]
  exact G
theorem At.mk' {K : PySem.W.Frag} {mg : Str → Option Value} {h : Heap} {x : Str} {ps : List Str} {st : Stmt} {f : Addr} {oc : Value} {od an : Option Addr} {osl : Array (Option Value)} {kV doc pm cdv ct : Value} (X : K.In h) (G : h.Ns mainGlobals mg)
    (a : PySem.W.nsIn K mainGlobals x = some (some (.ref f))) (l : K.lookup f = some ⟨oc, od, .func (PySem.W.fnOf x x (defArgs st) (defBody st) (defScope st) .none kV doc pm an cdv ct), osl⟩)
    (c : PySem.W.codeIn K cdv x = true) (k : PySem.W.keepIn K (.ref f) = true)
    (b : ∀ (kV doc pm : Value) (an : Option Addr) (cdv ct : Value) (us : List Value), us.length = ps.length → bindArgs (PySem.W.fnOf x x (defArgs st) (defBody st) (defScope st) .none kV doc pm an cdv ct) ⟨us, []⟩ = pure (ps.zip us)) : At K mg x ps st :=
  have F := fun_mk (st := st) l c k
  ⟨f, _, F, PySem.W.mg_of X G a, F.binds b⟩
end El
namespace El
open PySem PySem.Spec PyProof.Rows L2
section
variable {X : Cx}
/-! sorted(..., reverse=b) of anything whose walk is known -/
/-- partners: each pair is something of ours and the value that stands for it -/
abbrev Partners (P : List (V × Value)) : Prop := ∀ p ∈ P, RelV p.1 p.2
theorem partners_of : ∀ {xs : List V} {us : List Value}, Vals xs us → ∃ P, Partners P ∧ P.map Prod.fst = xs ∧ P.map Prod.snd = us
  | _, _, .nil => ⟨[], fun _ m => (List.not_mem_nil m).elim, rfl, rfl⟩
  | _, _, .cons h t =>
    let ⟨P, hP, e1, e2⟩ := partners_of t
    ⟨(_, _) :: P, fun p m => (List.mem_cons.mp m).elim (fun e => e ▸ h) (hP p), congrArg _ e1, congrArg _ e2⟩
theorem Partners.vals : ∀ {P : List (V × Value)}, Partners P → Vals (P.map Prod.fst) (P.map Prod.snd)
  | [], _ => .nil
  | _ :: _, h => .cons (h _ (.head _)) (Partners.vals fun p m => h p (.tail _ m))
/-- the values in another order: the partners go along -/
theorem go_along {α β : Type} {f : α → β} {ys : List β} : ∀ {P : List α}, ys.Perm (P.map f) → ∃ P' : List α, P'.Perm P ∧ P'.map f = ys := by
  suffices key : ∀ {as bs : List β}, as.Perm bs → ∀ P : List α, P.map f = as → ∃ P' : List α, P'.Perm P ∧ P'.map f = bs from
    fun {P} h => key h.symm P rfl
  intro as bs h
  induction h with
  | nil => exact fun P e => ⟨P, .refl _, e⟩
  | cons x _ ih =>
    intro P e
    match P, e with
    | q :: P, e =>
      obtain ⟨P', hp, e'⟩ := ih P (List.cons.inj e).2
      exact ⟨q :: P', hp.cons q, by rw [List.map_cons, e', (List.cons.inj e).1]⟩
  | swap x y l =>
    intro P e
    match P, e with
    | q :: r :: P, e => exact ⟨r :: q :: P, .swap .., by
        have e1 := List.cons.inj e
        have e2 := List.cons.inj e1.2
        rw [List.map_cons, List.map_cons, e1.1, e2.1, e2.2]⟩
  | trans _ _ ih1 ih2 =>
    intro P e
    obtain ⟨P1, h1, e1⟩ := ih1 P e
    obtain ⟨P2, h2, e2⟩ := ih2 P1 e1
    exact ⟨P2, h2.trans h1, e2⟩
/-- forwards or backwards -/
abbrev turn {α : Type} (b : Bool) (l : List α) : List α := if b = true then l.reverse else l
theorem turn_map {α β : Type} (f : α → β) (l : List α) : ∀ b, (turn b l).map f = turn b (l.map f)
  | true => List.map_reverse ..
  | false => rfl
theorem turn_perm {α : Type} (l : List α) : ∀ b, (turn b l).Perm l
  | true => l.reverse_perm
  | false => .refl _
theorem turn_arr {α : Type} (l : List α) : ∀ b : Bool, (if b = true then l.toArray.reverse else l.toArray) = (turn b l).toArray
  | true => List.reverse_toArray ..
  | false => rfl
/-- the walk over v gathers what stands for xs, and nothing that lay there is touched -/
def Gathers (X : Cx) (s : Shared) (v : Value) (xs : List V) : Prop :=
  ∀ R : List Value → Shared → Prop, (∀ us h t, Vals xs us → (∀ b o, s.heap.get? b = some o → h.get? b = some o) → R us { s with heap := h, toks := t }) → wpAny (model X.prog X.w) X.A.in1 (collect v) R X.xe s
theorem sorted_gathered {pins : List (Addr × Obj)} {σ : L2.St} {H : Hp} {s : Shared} {Q : VK} {b : Bool} {v : Value} {xs : List V} {less : Value → Value → Bool}
    (I : Inv X pins σ H s) (few : xs.length ≤ sizeLine) (walk : Gathers X s v xs) (O : SrtO.Swo less)
    (able : ∀ (us : List Value) (s' : Shared) (l : Addr), 2 ≤ us.length → Vals xs us → Inv X pins σ (upd H l (.lst xs)) s' → H l = none → SrtO.SortableO X.prog X.w X.A.in1.in1 s' l us less)
    (q : ∀ (P : List (V × Value)) (l : Addr), Partners P → (P.map Prod.fst).Perm xs → SrtO.Srtd less (P.map Prod.snd) → H l = none → Q (.ref l) (upd H l (.lst (turn b (P.map Prod.fst))))) :
    wpAny (model X.prog X.w) X.A (call (.builtin "sorted") [v] [(Str.ofString "reverse", .bool b)]) (EP X pins σ Q) X.xe s := by
  refine call_function_entry_kw kind_sorted plain_sorted entry_sorted (args_sorted_rev v (.bool b)) ?_
  refine wpAny_bind (m := checkCount "sorted" 1 1 _) (wpAny_pure ?_)
  refine wpAny_bind (walk _ fun us h t for_xs grown => ?_)
  have n2 : us.length ≤ sizeLine := for_xs.length ▸ few
  refine wpAny_bind (wpAny_newList (wpAny_bind (wpAny_holding ?_)) n2)
  -- the new list lies there, and is ours
  generalize hl : ({ s with heap := h, toks := t } : Shared).heap.objs.size = l
  have hl' : h.objs.size = l := hl
  have at_l : (h.push (seqObj "list" us.toArray 0)).get? l = some (seqObj "list" us.toArray 0) := hl' ▸ Heap.get?_push_size _ rfl
  have free : H l = none := hl' ▸ (I.kept (t' := t) grown).hok.fresh (Nat.le_refl _)
  have J : Inv X pins σ (upd H l (.lst xs)) { s with heap := h.push (seqObj "list" us.toArray 0), toks := t } :=
    (I.kept (t' := t) grown).laid (t' := t) (fun _ _ => Heap.get?_push_of_some _) (Nat.le_of_eq hl) ⟨few, _, 0, for_xs, at_l⟩
  -- it is sorted where it lies
  refine PyProof.Rows.wpAny_call_entry_kw slot_list_sort ⟨_, at_l, rfl⟩ entry_list_sort ?_ (args_list_sort_rev _ (.bool b))
  refine SrtR.list_sort_ordR O at_l n2 (fun two => able us _ l two for_xs J free) fun out up same => ⟨_, rfl, wpAny_pure ⟨_, rfl, ?_⟩⟩
  obtain ⟨P0, hP0, rfl, rfl⟩ := partners_of for_xs
  obtain ⟨P, p1, rfl⟩ := go_along (same.perm.trans (turn_perm (P0.map Prod.snd) b))
  rw [turn_arr]
  obtain ⟨e, he⟩ := sortedHeap_at (out := (turn b (P.map Prod.snd)).toArray) at_l
  have hP : Partners P := fun p m => hP0 p (p1.mem_iff.mp m)
  have ends : Partners (turn b P) := fun p m => hP p ((turn_perm P b).mem_iff.mp m)
  have done := J.write (o := .lst (turn b (P.map Prod.fst))) (t' := t) (h' := sortedHeap (h.push (seqObj "list" (P0.map Prod.snd).toArray 0)) l (P0.map Prod.snd) (turn b (P.map Prod.snd)).toArray)
    (by rw [upd_same]; trivial) (.inl rfl) (fun c u away there => (sortedHeap_old away (Heap.lt_size there)).trans there) ⟨_, he⟩
    ⟨by rw [((turn_perm _ b).trans (p1.map _)).length_eq]; exact few, _, e, by rw [← turn_map, ← turn_map]; exact ends.vals, he⟩
  rw [upd_upd] at done
  exact ⟨.ref l, _, done, rfl, q P l hP (p1.map _) up free⟩
/-- the walk over a dict: its keys -/
theorem gathers_dict {pins : List (Addr × Obj)} {σ : L2.St} {H : Hp} {s : Shared} {a : Addr} {kvs : List (L2.Key × V)} (calm : X.calm = true) (I : Inv X pins σ H s) (d : Rd H a (.dK kvs)) :
    kvs.length ≤ sizeLine ∧ Gathers X s (.ref a) (kvs.map fun e => kV e.1) := by
  have ⟨few, own, es, same, lies⟩ := dk_rd I.hok d
  have ⟨ep, lies⟩ := lies.dictAt
  have keys : (kvs.map fun e => kV e.1) = es.map fun e => kV e.1 := by
    have h := congrArg (List.map kV) same.keys
    rw [List.map_map, List.map_map] at h
    exact h
  refine ⟨few, fun R go => ?_⟩
  rw [keys] at go
  exact PySem.W.kdu_collect (PySem.W.kdl_dict (knd := mixKind X.prog X.w) own) (I.ok.hd calm) lies (same.length ▸ few)
    fun h t got grown is => go _ h t (keys_at (by simpa using is.1) fun j v at_j => is.2 j v (by simpa using at_j)) grown
theorem ints_back {us : List Value} {ns : List Int} (h : IntsAre us ns) : us.map SrtO.iv = ns := by
  induction h with
  | nil => rfl
  | cons n t _ ih => exact congrArg (n :: ·) ih
/-- sorted(d, reverse=b) of a dict whose keys are ints -/
def rSortedRevD (b : Bool) : List V → List V → Hp → VK → Prop := fun vs zs H Q => ∃ (a : Addr) (kvs : List (L2.Key × V)) (ks : List Int), vs = [V.ref a] ∧ zs = [.bl b] ∧ Rd H a (.dK kvs) ∧ kvs.map (·.1) = ks.map Sum.inl ∧
  ∀ (ns' : List Int) (p : Addr), ns'.Perm ks → OrdB b ns' → H p = none → Q (.ref p) (upd H p (.lst (ns'.map V.int)))
theorem cr_sortedRevD {b : Bool} (calm : X.calm = true) : CallRK X (.builtin "sorted") [Str.ofString "reverse"] (rSortedRevD b) := by
  rintro pins s σ H _ _ us ws Q I one by_kw ⟨a, kvs, ks, rfl, rfl, d, hks, q⟩
  obtain ⟨v, w, rfl, rfl, rfl, rfl⟩ : ∃ v w, us = [v] ∧ ws = [w] ∧ v = .ref a ∧ w = .bool b := by
    cases one with | cons e1 t1 => cases t1; cases by_kw with | cons e2 t2 => cases t2; exact ⟨_, _, rfl, rfl, e1, e2⟩
  have keys : (kvs.map fun e => kV e.1) = ks.map V.int := by
    have h := congrArg (List.map kV) hks
    rw [List.map_map, List.map_map] at h
    exact h
  have ⟨few, walk⟩ := gathers_dict calm I d
  rw [keys] at walk
  refine sorted_gathered I (by rw [← keys, List.length_map]; exact few) walk SrtO.swo_int (fun us _ _ two r _ _ => SrtO.ints_sortable r.ints two) fun P l hP perm up free => ?_
  obtain ⟨ns, np, en⟩ := go_along perm
  have back := ints_back (Vals.ints (en ▸ hP.vals))
  rw [← en, ← turn_map]
  refine q _ l ((turn_perm ns b).trans np) ?_ free
  have rise : ns.Pairwise (· ≤ ·) := by
    rw [← back, List.pairwise_map]
    exact up.imp fun h => Int.not_lt.mp (of_decide_eq_false h)
  cases b with
  | false => exact rise
  | true => exact List.pairwise_reverse.mpr rise
end
end El
namespace El
open PySem PySem.Spec PyProof.Rows L2
/-! ### heaps -/
/-- what B names stays as it was -/
def Kp (B : Addr → Prop) (H H' : Hp) : Prop := ∀ b o, B b → H b = some o → H' b = some o
theorem Kp.refl {B : Addr → Prop} {H : Hp} : Kp B H H := fun _ _ _ e => e
theorem Kp.trans {B : Addr → Prop} {H H1 H2 : Hp} (h : Kp B H H1) (k : Kp B H1 H2) : Kp B H H2 := fun b o hb e => k b o hb (h b o hb e)
theorem Kp.of {B : Addr → Prop} {H H' : Hp} (h : Same H H') : Kp B H H' := fun b o _ e => h b o e
theorem Kp.same {H H' : Hp} (h : Kp (fun _ => True) H H') : Same H H' := fun b o e => h b o trivial e
theorem same_new {H : Hp} {p : Addr} {o : HO} (h : H p = none) : Same H (upd H p o) := fun b u e => by
  rw [upd_ne (ne_of_none e h)]
  exact e
theorem Same.mut {H H' : Hp} {p : Addr} {o : HO} (e : Same H H') (h : H p = none) : Same H (upd H' p o) := fun b u q => by
  rw [upd_ne (ne_of_none q h)]
  exact e b u q
theorem Kp.mut {B : Addr → Prop} {H H' : Hp} {p : Addr} {o : HO} (e : Kp B H H') (h : ¬ B p) : Kp B H (upd H' p o) := fun b u hb q => by
  have n : b ≠ p := fun z => h (z ▸ hb)
  rw [upd_ne n]
  exact e b u hb q
theorem Kp.new {B : Addr → Prop} {H H' : Hp} {p : Addr} {o : HO} (e : Kp B H H') (h : H' p = none) : Kp B H (upd H' p o) := e.trans (Kp.of (same_new h))
theorem Kp.mutF {B : Addr → Prop} {H H' : Hp} {p : Addr} {o : HO} (e : Kp B H H') (h : H p = none) : Kp B H (upd H' p o) := fun b u hb q => by
  rw [upd_ne (ne_of_none q h)]
  exact e b u hb q
theorem Kp.none {B : Addr → Prop} {H H' : Hp} (e : Kp B H H') {p : Addr} (hb : B p) (h : H' p = none) : H p = none := by
  cases z : H p with
  | none => rfl
  | some x =>
    have := e _ _ hb z
    rw [h] at this
    cases this
theorem no_of {H : Hp} {a p : Addr} {o : HO} (h : H a = some o) (hp : H p = none) : p ≠ a := fun z => by
  rw [z, h] at hp
  cases hp
theorem same_none {H H' : Hp} (e : Same H H') {p : Addr} (h : H' p = none) : H p = none := e.free h
theorem ils {n : Nat} (h : n ≤ 100000) : n < sizeLine := Nat.lt_of_le_of_lt h (by decide)
theorem ile {n : Nat} (h : n ≤ 100000) : n ≤ sizeLine := Nat.le_of_lt (ils h)
theorem ints_at {ns : List Int} {i : Nat} {x : V} (h : (ns.map V.int)[i]? = some x) : ∃ n, ns[i]? = some n ∧ x = .int n := by
  rw [List.getElem?_map] at h
  cases e : ns[i]? with
  | none => rw [e] at h; cases h
  | some n => rw [e] at h; exact ⟨n, rfl, (Option.some.inj h).symm⟩
theorem refs_at {ts : List Addr} {i : Nat} {x : V} (h : (ts.map V.ref)[i]? = some x) : ∃ t, ts[i]? = some t ∧ x = .ref t := by
  rw [List.getElem?_map] at h
  cases e : ts[i]? with
  | none => rw [e] at h; cases h
  | some t => rw [e] at h; exact ⟨t, rfl, (Option.some.inj h).symm⟩
theorem at_lt {α : Type} {l : List α} {i : Nat} {x : α} (h : l[i]? = some x) : i < l.length := (List.getElem?_eq_some_iff.mp h).1
theorem at_some {α : Type} {l : List α} {i : Nat} (h : i < l.length) : ∃ x, l[i]? = some x := ⟨l[i], List.getElem?_eq_getElem h⟩
theorem take_snoc {α : Type} {l : List α} {i : Nat} {x : α} (h : l[i]? = some x) : l.take (i + 1) = l.take i ++ [x] := by
  rw [List.take_add_one, h]
  rfl
theorem take_full {α : Type} (l : List α) : l.take l.length = l := List.take_length
/-! ### a list of pairs of ints -/
structure GsAt (H : Hp) (B : Addr → Prop) (a : Addr) (ts : List Addr) (gs : List (Int × Int)) : Prop where
  top : H a = some (.lst (ts.map V.ref))
  ba : B a
  len : ts.length = gs.length
  at' : ∀ (i : Nat) (t : Addr) (g : Int × Int), ts[i]? = some t → gs[i]? = some g → H t = some (.tup [.int g.1, .int g.2])
  b : ∀ t ∈ ts, B t
theorem GsAt.keep {H H' : Hp} {B : Addr → Prop} {a : Addr} {ts : List Addr} {gs : List (Int × Int)} (h : GsAt H B a ts gs) (k : Kp B H H') : GsAt H' B a ts gs :=
  ⟨k _ _ h.ba h.top, h.ba, h.len, fun i t g e f => k _ _ (h.b t (List.mem_of_getElem? e)) (h.at' i t g e f), h.b⟩
theorem GsAt.same {H H' : Hp} {B : Addr → Prop} {a : Addr} {ts : List Addr} {gs : List (Int × Int)} (h : GsAt H B a ts gs) (k : Same H H') : GsAt H' B a ts gs := h.keep (.of k)
theorem GsAt.weaken {H : Hp} {B B' : Addr → Prop} {a : Addr} {ts : List Addr} {gs : List (Int × Int)} (h : GsAt H B a ts gs) (k : ∀ b, B b → B' b) : GsAt H B' a ts gs :=
  ⟨h.top, k _ h.ba, h.len, h.at', fun t m => k _ (h.b t m)⟩
theorem GsAt.seq {K : PySem.W.Frag} {H : Hp} {B : Addr → Prop} {a : Addr} {ts : List Addr} {gs : List (Int × Int)} (h : GsAt H B a ts gs) : SqL K H a (ts.map V.ref) := SqL.of h.top
theorem GsAt.get {H : Hp} {B : Addr → Prop} {a : Addr} {ts : List Addr} {gs : List (Int × Int)} (h : GsAt H B a ts gs) {i : Nat} {x : V} (e : (ts.map V.ref)[i]? = some x) : ∃ t g, x = .ref t ∧ gs[i]? = some g ∧ H t = some (.tup [.int g.1, .int g.2]) := by
  obtain ⟨t, e1, rfl⟩ := refs_at e
  have hi := at_lt e1
  rw [h.len] at hi
  obtain ⟨g, e2⟩ := at_some hi
  exact ⟨t, g, rfl, e2, h.at' i t g e1 e2⟩
/-- pushed -/
theorem GsAt.push {H : Hp} {B : Addr → Prop} {a : Addr} {ts : List Addr} {gs : List (Int × Int)} (h : GsAt H B a ts gs) (hn : a ∉ ts) {q : Addr} {g : Int × Int} (e : H q = some (.tup [.int g.1, .int g.2])) (bq : B q) :
    GsAt (upd H a (.lst (ts.map V.ref ++ [.ref q]))) B a (ts ++ [q]) (gs ++ [g]) := by
  refine ⟨?_, h.ba, ?_, fun i t x e1 e2 => ?_, fun t m => ?_⟩
  · rw [upd_same, List.map_append]
    rfl
  · rw [List.length_append, List.length_append, h.len]
    rfl
  · have nq : q ≠ a := fun z => by
      rw [z, h.top] at e
      cases e
    by_cases hi : i < ts.length
    · rw [List.getElem?_append_left hi] at e1
      rw [List.getElem?_append_left (by rw [← h.len]; exact hi)] at e2
      have nt : t ≠ a := fun z => hn (z ▸ List.mem_of_getElem? e1)
      rw [upd_ne nt]
      exact h.at' i t x e1 e2
    · have hi' : i = ts.length := by
        have := at_lt e1
        rw [List.length_append, List.length_singleton] at this
        omega
      subst hi'
      rw [List.getElem?_append_right (Nat.le_refl _), Nat.sub_self] at e1
      rw [h.len, List.getElem?_append_right (Nat.le_refl _), Nat.sub_self] at e2
      have e1' : q = t := Option.some.inj e1
      have e2' : g = x := Option.some.inj e2
      subst e1' e2'
      rw [upd_ne nq]
      exact e
  · rcases List.mem_append.mp m with m | m
    · exact h.b t m
    · rw [List.mem_singleton.mp m]
      exact bq
theorem GsAt.there {H : Hp} {B : Addr → Prop} {a : Addr} {ts : List Addr} {gs : List (Int × Int)} (h : GsAt H B a ts gs) : ∀ b, (b = a ∨ b ∈ ts) → ∃ x, H b = some x := fun b m => by
  rcases m with rfl | m
  · exact ⟨_, h.top⟩
  · obtain ⟨i, e⟩ := List.mem_iff_getElem?.mp m
    have hl := at_lt e
    rw [h.len] at hl
    obtain ⟨g, eg⟩ := at_some hl
    exact ⟨_, h.at' i b g e eg⟩
theorem GsAt.reB {H : Hp} {B B' : Addr → Prop} {a : Addr} {ts : List Addr} {gs : List (Int × Int)} (h : GsAt H B a ts gs) (k : ∀ b, (b = a ∨ b ∈ ts) → B b → B' b) : GsAt H B' a ts gs :=
  ⟨h.top, k _ (.inl rfl) h.ba, h.len, h.at', fun t m => k _ (.inr m) (h.b t m)⟩
/-- what stands in H and is named by B -/
def Liv (H : Hp) (B : Addr → Prop) (b : Addr) : Prop := (∃ x, H b = some x) ∧ B b
theorem GsAt.liv {H : Hp} {B : Addr → Prop} {a : Addr} {ts : List Addr} {gs : List (Int × Int)} (h : GsAt H B a ts gs) : GsAt H (Liv H B) a ts gs := h.reB fun b m hb => ⟨h.there b m, hb⟩
theorem Liv.no {H : Hp} {B : Addr → Prop} {p : Addr} (h : H p = none) : ¬ Liv H B p := fun ⟨⟨x, e⟩, _⟩ => by
  rw [h] at e
  cases e
theorem Liv.of {H : Hp} {B : Addr → Prop} {p : Addr} {o : HO} (h : H p = some o) (b : B p) : Liv H B p := ⟨⟨o, h⟩, b⟩
theorem Kp.weak {B B' : Addr → Prop} {H H' : Hp} (k : Kp B H H') (h : ∀ b, B' b → B b) : Kp B' H H' := fun b o hb e => k b o (h b hb) e
theorem Kp.liv {B : Addr → Prop} {H0 H H' : Hp} (k : Kp B H H') : Kp (Liv H0 B) H H' := k.weak fun _ h => h.2
/-! ### a list of lists of ints, each its own -/
structure RmsAt (H : Hp) (B : Addr → Prop) (o : Addr) (ts : List Addr) (rs : List (List Int)) : Prop where
  top : H o = some (.lst (ts.map V.ref))
  bo : B o
  nd : ts.Nodup
  no : o ∉ ts
  len : ts.length = rs.length
  at' : ∀ (i : Nat) (t : Addr) (r : List Int), ts[i]? = some t → rs[i]? = some r → H t = some (.lst (r.map V.int))
  b : ∀ t ∈ ts, B t
theorem RmsAt.keep {H H' : Hp} {B : Addr → Prop} {a : Addr} {ts : List Addr} {rs : List (List Int)} (h : RmsAt H B a ts rs) (k : Kp B H H') : RmsAt H' B a ts rs :=
  ⟨k _ _ h.bo h.top, h.bo, h.nd, h.no, h.len, fun i t g e f => k _ _ (h.b t (List.mem_of_getElem? e)) (h.at' i t g e f), h.b⟩
theorem RmsAt.same {H H' : Hp} {B : Addr → Prop} {a : Addr} {ts : List Addr} {rs : List (List Int)} (h : RmsAt H B a ts rs) (k : Same H H') : RmsAt H' B a ts rs := h.keep (.of k)
theorem RmsAt.weaken {H : Hp} {B B' : Addr → Prop} {a : Addr} {ts : List Addr} {rs : List (List Int)} (h : RmsAt H B a ts rs) (k : ∀ b, B b → B' b) : RmsAt H B' a ts rs :=
  ⟨h.top, k _ h.bo, h.nd, h.no, h.len, h.at', fun t m => k _ (h.b t m)⟩
theorem RmsAt.seq {K : PySem.W.Frag} {H : Hp} {B : Addr → Prop} {a : Addr} {ts : List Addr} {rs : List (List Int)} (h : RmsAt H B a ts rs) : SqL K H a (ts.map V.ref) := SqL.of h.top
theorem RmsAt.get {H : Hp} {B : Addr → Prop} {a : Addr} {ts : List Addr} {rs : List (List Int)} (h : RmsAt H B a ts rs) {i : Nat} {x : V} (e : (ts.map V.ref)[i]? = some x) : ∃ t r, x = .ref t ∧ ts[i]? = some t ∧ rs[i]? = some r ∧ H t = some (.lst (r.map V.int)) := by
  obtain ⟨t, e1, rfl⟩ := refs_at e
  have hi := at_lt e1
  rw [h.len] at hi
  obtain ⟨g, e2⟩ := at_some hi
  exact ⟨t, g, rfl, e1, e2, h.at' i t g e1 e2⟩
theorem RmsAt.of {H : Hp} {B : Addr → Prop} {a : Addr} {ts : List Addr} {rs : List (List Int)} (h : RmsAt H B a ts rs) {i : Nat} {r : List Int} (e : rs[i]? = some r) : ∃ t, ts[i]? = some t ∧ H t = some (.lst (r.map V.int)) := by
  have hi := at_lt e
  rw [← h.len] at hi
  obtain ⟨t, e2⟩ := at_some hi
  exact ⟨t, e2, h.at' i t r e2 e⟩
theorem RmsAt.nil {H : Hp} {B : Addr → Prop} {o : Addr} (h : H o = some (.lst [])) (bo : B o) : RmsAt H B o [] [] :=
  ⟨h, bo, List.nodup_nil, by simp, rfl, fun i t r e _ => by simp at e, fun t m => by simp at m⟩
/-- a new empty list behind -/
theorem RmsAt.push {H : Hp} {B : Addr → Prop} {o : Addr} {ts : List Addr} {rs : List (List Int)} (h : RmsAt H B o ts rs) {q : Addr} {r : List Int} (hq : H q = none) (bq : B q) :
    RmsAt (upd (upd H q (.lst (r.map V.int))) o (.lst (ts.map V.ref ++ [.ref q]))) B o (ts ++ [q]) (rs ++ [r]) := by
  have nq : q ≠ o := no_of h.top hq
  have nqt : ∀ t ∈ ts, q ≠ t := fun t m => by
    obtain ⟨i, hi⟩ := List.mem_iff_getElem?.mp m
    have hl := at_lt hi
    rw [h.len] at hl
    obtain ⟨r', er⟩ := at_some hl
    exact no_of (h.at' i t r' hi er) hq
  refine ⟨?_, h.bo, ?_, ?_, ?_, fun i t x e1 e2 => ?_, fun t m => ?_⟩
  · rw [upd_same, List.map_append]
    rfl
  · rw [List.nodup_append]
    exact ⟨h.nd, by simp, fun a ha b hb => by
      rw [List.mem_singleton.mp hb]
      exact (nqt a ha).symm⟩
  · intro m
    rcases List.mem_append.mp m with m | m
    · exact h.no m
    · exact nq (List.mem_singleton.mp m).symm
  · rw [List.length_append, List.length_append, h.len]
    rfl
  · by_cases hi : i < ts.length
    · rw [List.getElem?_append_left hi] at e1
      rw [List.getElem?_append_left (by rw [← h.len]; exact hi)] at e2
      have nt : t ≠ o := fun z => h.no (z ▸ List.mem_of_getElem? e1)
      rw [upd_ne nt, upd_ne (nqt t (List.mem_of_getElem? e1)).symm]
      exact h.at' i t x e1 e2
    · have hi' : i = ts.length := by
        have := at_lt e1
        rw [List.length_append, List.length_singleton] at this
        omega
      subst hi'
      rw [List.getElem?_append_right (Nat.le_refl _), Nat.sub_self] at e1
      rw [h.len, List.getElem?_append_right (Nat.le_refl _), Nat.sub_self] at e2
      have e1' : q = t := Option.some.inj e1
      have e2' : r = x := Option.some.inj e2
      subst e1' e2'
      rw [upd_ne nq, upd_same]
  · rcases List.mem_append.mp m with m | m
    · exact h.b t m
    · rw [List.mem_singleton.mp m]
      exact bq
/-- one of them changed -/
theorem RmsAt.set {H : Hp} {B : Addr → Prop} {o : Addr} {ts : List Addr} {rs : List (List Int)} (h : RmsAt H B o ts rs) {i : Nat} {t : Addr} (e : ts[i]? = some t) (r : List Int) :
    RmsAt (upd H t (.lst (r.map V.int))) B o ts (rs.set i r) := by
  have nt : t ≠ o := fun z => h.no (z ▸ List.mem_of_getElem? e)
  refine ⟨?_, h.bo, h.nd, h.no, ?_, fun j u x e1 e2 => ?_, h.b⟩
  · rw [upd_ne nt.symm]
    exact h.top
  · rw [List.length_set]
    exact h.len
  · by_cases hj : j = i
    · subst hj
      have e' : u = t := Option.some.inj (e1.symm.trans e)
      subst e'
      rw [upd_same]
      have hl := at_lt e1
      rw [h.len] at hl
      rw [List.getElem?_set_self hl] at e2
      have : r = x := Option.some.inj e2
      rw [this]
    · rw [List.getElem?_set_ne (fun z => hj z.symm)] at e2
      have hut : u ≠ t := fun z => by
        subst z
        exact hj (nd_ix h.nd e1 e)
      rw [upd_ne hut]
      exact h.at' j u x e1 e2
theorem RmsAt.newTop {H H' : Hp} {B B' : Addr → Prop} {o : Addr} {ts : List Addr} {rs : List (List Int)} (h : RmsAt H B o ts rs) (k : ∀ b u, (b = o ∨ b ∈ ts) → H b = some u → H' b = some u) (kb : ∀ b, (b = o ∨ b ∈ ts) → B' b) : RmsAt H' B' o ts rs :=
  ⟨k _ _ (.inl rfl) h.top, kb _ (.inl rfl), h.nd, h.no, h.len, fun i t r e f => k _ _ (.inr (List.mem_of_getElem? e)) (h.at' i t r e f), fun t m => kb t (.inr m)⟩
/-! ### the dict of patience -/
def pks (gs : List (Int × Int)) : List (L2.Key × V) := gs.map fun g => (Sum.inl g.1, V.int g.2)
theorem pks_len (gs : List (Int × Int)) : (pks gs).length = gs.length := List.length_map _
theorem pks_keys (gs : List (Int × Int)) : (pks gs).map (·.1) = (gs.map (·.1)).map Sum.inl := by
  unfold pks
  rw [List.map_map, List.map_map]
  rfl
theorem pks_snoc (gs : List (Int × Int)) (g : Int × Int) : pks (gs ++ [g]) = pks gs ++ [(Sum.inl g.1, V.int g.2)] := List.map_append
theorem pks_none {gs : List (Int × Int)} {a : Int} (h : a ∉ gs.map (·.1)) : valV (pks gs) (Sum.inl a) = none := by
  induction gs with
  | nil => rfl
  | cons g gs ih =>
    have h' : ¬ (a = g.1 ∨ a ∈ gs.map (·.1)) := fun z => h (by rw [List.map_cons]; exact List.mem_cons.mpr z)
    have n : ¬ (Sum.inl g.1 : L2.Key) = Sum.inl a := fun z => h' (.inl (Sum.inl.inj z).symm)
    show valV ((Sum.inl g.1, V.int g.2) :: pks gs) (Sum.inl a) = none
    rw [valV_neg n]
    exact ih fun z => h' (.inr z)
theorem pks_some : ∀ {gs : List (Int × Int)} {g : Int × Int}, (gs.map (·.1)).Nodup → g ∈ gs → valV (pks gs) (Sum.inl g.1) = some (.int g.2)
  | x :: gs, g, nd, h => by
    have nd' : (x.1 :: gs.map (·.1)).Nodup := nd
    obtain ⟨n1, n2⟩ := List.nodup_cons.mp nd'
    show valV ((Sum.inl x.1, V.int x.2) :: pks gs) (Sum.inl g.1) = some (.int g.2)
    rcases List.mem_cons.mp h with e | h
    · subst e
      rw [valV_pos rfl]
    · have n : ¬ (Sum.inl x.1 : L2.Key) = Sum.inl g.1 := fun z => n1 (by
        rw [Sum.inl.inj z]
        exact List.mem_map.mpr ⟨g, h, rfl⟩)
      rw [valV_neg n]
      exact pks_some n2 h
theorem putK_snoc {gs : List (Int × Int)} {g : Int × Int} (h : g.1 ∉ gs.map (·.1)) : putK (pks gs) (Sum.inl g.1) (V.int g.2) = pks (gs ++ [g]) := by
  rw [putK_new _ (pks_none h), pks_snoc]
theorem Fit.take_no {gs : List (Int × Int)} (f : Fit gs) {i : Nat} {g : Int × Int} (h : gs[i]? = some g) : g.1 ∉ (gs.take i).map (·.1) := by
  intro m
  have e : gs = gs.take i ++ g :: gs.drop (i + 1) := by
    have hl := at_lt h
    have e2 : gs[i] = g := by
      rw [List.getElem?_eq_getElem hl] at h
      exact Option.some.inj h
    rw [← e2, List.getElem_cons_drop, List.take_append_drop]
  have nd := f.nd
  rw [e, List.map_append, List.nodup_append] at nd
  exact nd.2.2 _ m g.1 (by rw [List.map_cons]; exact List.mem_cons_self) rfl
/-! ### rules by a written part that is named (for what stands in a comprehension) -/
section
variable {X : Cx}
theorem lenK (K : PySem.W.Frag) (e : X.K = K := by rfl) : CallR X (.builtin "len") (fun xs H Q => ∃ p ys, xs = [.ref p] ∧ (SqL K H p ys ∨ SqT K H p ys) ∧ Q (.int ys.length) H) := by
  subst e
  exact call_len_seq
theorem ixlK (K : PySem.W.Frag) (e : X.K = K := by rfl) : IxR X (rIxL K) := by
  subst e
  exact ix_list
theorem ixtK (K : PySem.W.Frag) (e : X.K = K := by rfl) : IxR X (rIxT K) := by
  subst e
  exact ix_tup
theorem sllK (K : PySem.W.Frag) (e : X.K = K := by rfl) : SlR X (rSlL K) := by
  subst e
  exact sl_list
theorem eqDK (K : PySem.W.Frag) (hu : X.A.units + 64 < cLine) (e : X.K = K := by rfl) : OpR X (compareOp .Eq) (rEqD K) := by
  subst e
  exact op_eqD hu
theorem neDK (K : PySem.W.Frag) (hu : X.A.units + 64 < cLine) (e : X.K = K := by rfl) : OpR X (compareOp .NotEq) (rNeD K) := by
  subst e
  exact op_neD hu
theorem isiK (K : PySem.W.Frag) (e : X.K = K := by rfl) : CallR X (.builtin "isinstance") (rIsi K) := by
  subst e
  exact call_isi
theorem sumK (K : PySem.W.Frag) (hc : X.calm = true) (e : X.K = K := by rfl) : CallR X (.builtin "sum") (rSum K) := by
  subst e
  exact cr_sum hc
theorem inK (K : PySem.W.Frag) (e : X.K = K := by rfl) : OpR X (compareOp .In) (rIn K false) := by
  subst e
  exact op_in_seq
theorem notInK (K : PySem.W.Frag) (e : X.K = K := by rfl) : OpR X (compareOp .NotIn) (rIn K true) := by
  subst e
  exact op_notIn_seq
theorem listOfK (K : PySem.W.Frag) (e : X.K = K := by rfl) : CallR X (.type "list") (fun xs H Q => ∃ p ys, xs = [.ref p] ∧ (SqL K H p ys ∨ SqT K H p ys) ∧ ∀ l, H l = none → Q (.ref l) (upd H l (.lst ys))) := by
  subst e
  exact call_list_of
theorem pgTupK {es : List Expr} {k : Nat} {t : TGs} {pos : Pos} (K : PySem.W.Frag) (n : Nat) (hc : X.calm = true) (h : PGs X es t)
    (hn : (assignEach es X.env).length = n := by rfl) (hst : (assignEach es X.env).findIdx? (·.1) = none := by rfl) (e : X.K = K := by rfl) : PG X (.Tuple es k pos) (gTup K n t) := by
  subst e
  exact pg_tup hc h hn hst
theorem bmK {T : String} {name : Str} {id : String} {o e : Expr} {es : List Expr} {to : TE} {t : TA} {apos cpos : Pos} {r : V → List V → Hp → VK → Prop} (K : PySem.W.Frag) (pa : PlainAttrs T) (slot : Slot T name id) (hty : typeOf (.builtin id) = pure (.type "method_descriptor")) (hm : MtR X id r) (ho : PE X o to) (ha : PA X (e :: es) t)
    (hbase : attributeBase o name X.env (eval o X.env) = eval o X.env := by rfl)
    (hfew : ((backTo cpos (starEach (e :: es) X.env)).all (fun x => !x.1) && (backToKw cpos (keywordEach [] X.env)).all (fun x => x.1.isSome)
      && decide ((e :: es).length + ([] : List Keyword).length + (if ([] : List Keyword).isEmpty then 0 else 1) < 30)) = true := by rfl)
    (hline : (apos.endLine == cpos.line) = true := by rfl) (hs : starEach (e :: es) X.env = (false, eval e X.env) :: starEach es X.env := by rfl) (hplain : (backTo cpos (starEach es X.env)).any (·.1) = false := by rfl) (eK : X.K = K := by rfl) :
    PE X (.Call (.Attribute o name apos) (e :: es) [] cpos) (tBM K T r to t) := by
  subst eK
  exact pe_bm pa slot hty hm ho ha hbase hfew hline hs hplain
end
/-! ### cuts: what holds between two parts of a body -/
section
variable {σ : L2.St} {H : Hp} {D : Ends} {c : TT} {t u tb : TS}
theorem while_to (W : Nat → L2.St → Hp → Prop) (E : L2.St → Hp → Prop) (h0 : ∃ m, W m σ H) (hd : ∀ σ H, E σ H → D.nx σ H)
    (hs : ∀ X : L2.St → Hp → Prop, (∀ σ H, E σ H → X σ H) → ∀ m σ H, W m σ H → c σ H fun b H1 => if b = true then ∃ N : L2.St → Hp → Prop, (∀ σ' H', N σ' H' → ∃ m', m' < m ∧ W m' σ' H') ∧ tb { D with nx := N, ct := N, bk := X } σ H1 else X σ H1) : tWhile c tb D σ H := ⟨W, h0, hs D.nx hd⟩
theorem seq_to (E : L2.St → Hp → Prop) (h1 : ∀ X : L2.St → Hp → Prop, (∀ σ H, E σ H → X σ H) → t { D with nx := X } σ H) (h2 : ∀ σ H, E σ H → u D σ H) : tSeq t u D σ H := h1 (u D) h2
theorem seq_set {i : Nat} {v : V} (h : u D (σ.set i (some v)) H) : tSeq (tAsg (tC v) (gName i)) u D σ H := h
theorem st_to (E : L2.St → Hp → Prop) (h1 : ∀ X : L2.St → Hp → Prop, (∀ σ H, E σ H → X σ H) → t { D with nx := X } σ H) (h2 : ∀ σ H, E σ H → D.nx σ H) : t D σ H := h1 D.nx h2
end
theorem ixN_of {n j : Nat} (hj : j < n) : ixN n (j : Int) = some j := by
  unfold ixN
  rw [if_pos (by omega), if_pos (by omega), Int.toNat_natCast]
theorem seq_ix {n j : Nat} (hj : j < n) : seqIndex? (j : Int) n = some j := (ixN_seq (ixN_of hj)).1
theorem at_pick {xs : List V} {r : Int} (h0 : 0 ≤ r) (h1 : r < xs.length) : ∃ v, atI xs r = some v ∧ v ∈ xs := by
  obtain ⟨k, rfl⟩ : ∃ k : Nat, r = k := ⟨r.toNat, by omega⟩
  obtain ⟨v, e⟩ := at_some (show k < xs.length by omega)
  exact ⟨v, atI_nat e, List.mem_of_getElem? e⟩
theorem erase_perm {α : Type} : ∀ {l : List α} {k : Nat} {x : α}, l[k]? = some x → (x :: l.eraseIdx k).Perm l
  | [], _, _, h => by simp at h
  | a :: l, 0, x, h => by
    obtain rfl : a = x := Option.some.inj h
    exact List.Perm.refl _
  | a :: l, k + 1, x, h => by
    have ih := erase_perm (l := l) (k := k) (x := x) (by simpa using h)
    exact (List.Perm.swap a x (l.eraseIdx k)).trans (ih.cons a)
/-! ### data -/
def dInts (ns : List Int) : PyData := .list (ns.map .int)
def dGs (gs : List (Int × Int)) : PyData := .list (gs.map fun g => .tuple [.int g.1, .int g.2])
def dRows (rs : List (List Int)) : PyData := .list (rs.map dInts)
theorem canAll : ∀ {xs : List PyData}, (∀ x ∈ xs, x.canLay0 = true) → PyData.canLayAll0 xs = true
  | [], _ => by simp [PyData.canLayAll0]
  | x :: xs, h => by
    rw [PyData.canLayAll0, h x List.mem_cons_self, canAll fun y hy => h y (List.mem_cons_of_mem _ hy)]
    rfl
theorem depAll {n : Nat} : ∀ {xs : List PyData}, (∀ x ∈ xs, x.depth ≤ n) → PyData.depthAll xs ≤ n
  | [], _ => by simp [PyData.depthAll]
  | x :: xs, h => by
    rw [PyData.depthAll]
    exact Nat.max_le.mpr ⟨h x List.mem_cons_self, depAll fun y hy => h y (List.mem_cons_of_mem _ hy)⟩
structure Oks (n : Nat) (d : PyData) : Prop where
  can : d.canLay0 = true
  dep : d.depth ≤ n
theorem Oks.int (i : Int) : Oks 0 (.int i) := ⟨by simp [PyData.canLay0], by simp [PyData.depth]⟩
theorem Oks.mono {n m : Nat} {d : PyData} (h : Oks n d) (k : n ≤ m) : Oks m d := ⟨h.can, Nat.le_trans h.dep k⟩
theorem Oks.lst {n : Nat} {xs : List PyData} (h : ∀ x ∈ xs, Oks n x) : Oks (n + 1) (.list xs) := ⟨by rw [PyData.canLay0]; exact canAll fun x m => (h x m).can, by rw [PyData.depth]; exact Nat.succ_le_succ (depAll fun x m => (h x m).dep)⟩
theorem Oks.tup {n : Nat} {xs : List PyData} (h : ∀ x ∈ xs, Oks n x) : Oks (n + 1) (.tuple xs) := ⟨by rw [PyData.canLay0]; exact canAll fun x m => (h x m).can, by rw [PyData.depth]; exact Nat.succ_le_succ (depAll fun x m => (h x m).dep)⟩
theorem Oks.ints (ns : List Int) : Oks 1 (dInts ns) := .lst fun x m => by
  obtain ⟨n, _, rfl⟩ := List.mem_map.mp m
  exact .int n
theorem Oks.gs (gs : List (Int × Int)) : Oks 2 (dGs gs) := .lst fun x m => by
  obtain ⟨g, _, rfl⟩ := List.mem_map.mp m
  refine .tup fun y hy => ?_
  rcases List.mem_cons.mp hy with rfl | hy
  · exact .int _
  · rw [List.mem_singleton.mp hy]
    exact .int _
theorem Oks.rows (rs : List (List Int)) : Oks 2 (dRows rs) := .lst fun x m => by
  obtain ⟨r, _, rfl⟩ := List.mem_map.mp m
  exact .ints r
theorem Oks.shaped {n : Nat} {d : PyData} (h : Oks n d) (k : n ≤ 64 := by decide) : SeqAt.shaped d = true := by
  unfold SeqAt.shaped
  rw [h.can, decide_eq_true (Nat.le_trans h.dep k)]
  rfl
theorem Oks.eqv {n : Nat} {d : PyData} (h : Oks n d) : PyData.eqv d d = true := SeqAt.eqv_refl d h.can
theorem dp_ints {K : PySem.W.Frag} {H : Hp} {ns : List Int} : DpAll K H (ns.map V.int) (ns.map .int) := by
  induction ns with
  | nil => exact .nil
  | cons n ns ih => exact .cons (.int n) ih
theorem Dp.ints {K : PySem.W.Frag} {H : Hp} {a : Addr} {ns : List Int} (h : H a = some (.lst (ns.map V.int))) : Dp K H (.ref a) (dInts ns) := .lst (SqL.of h) dp_ints
theorem dpAll_of {K : PySem.W.Frag} {H : Hp} : ∀ {vs : List V} {ds : List PyData}, vs.length = ds.length → (∀ (i : Nat) (v : V) (d : PyData), vs[i]? = some v → ds[i]? = some d → Dp K H v d) → DpAll K H vs ds
  | [], [], _, _ => .nil
  | v :: vs, d :: ds, hl, h => .cons (h 0 v d rfl rfl) (dpAll_of (by simpa using hl) fun i v d e f => h (i + 1) v d (by simpa using e) (by simpa using f))
  | [], _ :: _, hl, _ => by simp at hl
  | _ :: _, [], hl, _ => by simp at hl
theorem GsAt.dp {K : PySem.W.Frag} {H : Hp} {B : Addr → Prop} {a : Addr} {ts : List Addr} {gs : List (Int × Int)} (h : GsAt H B a ts gs) : Dp K H (.ref a) (dGs gs) := by
  refine .lst h.seq (dpAll_of (by rw [List.length_map, List.length_map, h.len]) fun i v d e f => ?_)
  obtain ⟨t, g, rfl, eg, et⟩ := h.get e
  rw [List.getElem?_map, eg] at f
  obtain rfl := Option.some.inj f
  exact .tup (SqT.of et) (.cons (.int _) (.cons (.int _) .nil))
theorem RmsAt.dp {K : PySem.W.Frag} {H : Hp} {B : Addr → Prop} {a : Addr} {ts : List Addr} {rs : List (List Int)} (h : RmsAt H B a ts rs) : Dp K H (.ref a) (dRows rs) := by
  refine .lst h.seq (dpAll_of (by rw [List.length_map, List.length_map, h.len]) fun i v d e f => ?_)
  obtain ⟨t, r, rfl, _, er, et⟩ := h.get e
  rw [List.getElem?_map, er] at f
  obtain rfl := Option.some.inj f
  exact Dp.ints et
theorem eqv_nil (gs : List Int) : PyData.eqv (dInts gs) (dInts []) = gs.isEmpty := by
  cases gs with
  | nil => rfl
  | cons x r => rfl
theorem relTy (n : String) : RelV (.ty n) (.type n) := rfl
theorem FnOk.or {P : Program} {w : World} {K : PySem.W.Frag} {mg : Str → Option Value} {base : Heap} {CX : CXT} {k : Nat} {f : Addr} {fd : FuncData} {ps : List Str} {sp sp' : Sp} (F : FnOk P w K mg base CX k f fd ps sp) (F' : FnOk P w K mg base CX k f fd ps sp') :
    FnOk P w K mg base CX k f fd ps (fun vs H Q E => sp vs H Q E ∨ sp' vs H Q E) :=
  ⟨fun vs H Q E h => h.elim (F.len vs H Q E) (F'.len vs H Q E), fun A outer s H args us vs Q E hr e0 hb r h => h.elim (F.run A outer s H args us vs Q E hr e0 hb r) (F'.run A outer s H args us vs Q E hr e0 hb r)⟩
/-! ### built-ins by their names -/
structure Bi (mg : Str → Option Value) : Prop where
  len : mg "len" = none
  range : mg "range" = none
  enumerate : mg "enumerate" = none
  sorted : mg "sorted" = none
  sum : mg "sum" = none
  min : mg "min" = none
  max : mg "max" = none
  isinstance : mg "isinstance" = none
  zip : mg "zip" = none
  list_ : mg "list" = none
  tuple_ : mg "tuple" = none
  int_ : mg "int" = none
  bool_ : mg "bool" = none
  str_ : mg "str" = none
  abs : mg "abs" = none
  repr : mg "repr" = none
  dict_ : mg "dict" = none
  any : mg "any" = none
  all : mg "all" = none
  set_ : mg "set" = none
  reversed : mg "reversed" = none
  ValueError_ : mg "ValueError" = none
  divmod : mg "divmod" = none
end El
namespace El
open PySem PySem.Spec PyProof.Rows L2
/-- how many live in each -/
def lens (rs : List (List Int)) : List Int := rs.map fun r => (r.length : Int)
theorem lens_length (rs : List (List Int)) : (lens rs).length = rs.length := List.length_map _
theorem lens_at {rs : List (List Int)} {i : Nat} {r : List Int} (h : rs[i]? = some r) : (lens rs)[i]? = some (r.length : Int) := by
  unfold lens
  rw [List.getElem?_map, h]
  rfl
theorem cut_to (xs : List V) (j : Nat) : cutV xs none (some (j : Int)) = xs.take j := by
  unfold cutV
  rw [HT.sIx_none, HT.sIx_nat]
  show (List.drop 0 xs).take (min j xs.length - 0) = _
  rw [List.drop_zero, Nat.sub_zero, ← List.take_eq_take_min]
/-- the pair that stands at a value -/
def prOf (H : Hp) : V → Int × Int
  | .ref t => match H t with
    | some (.tup [.int i, .int j]) => (i, j)
    | _ => (0, 0)
  | _ => (0, 0)
theorem prOf_is {H : Hp} {t : Addr} {g : Int × Int} (h : H t = some (.tup [.int g.1, .int g.2])) : prOf H (.ref t) = g := by
  show (match H t with
    | some (.tup [.int i, .int j]) => (i, j)
    | _ => (0, 0)) = g
  rw [h]
theorem GsAt.prs {H : Hp} {B : Addr → Prop} {a : Addr} {ts : List Addr} {gs : List (Int × Int)} (h : GsAt H B a ts gs) : (ts.map V.ref).map (prOf H) = gs := by
  refine List.ext_getElem? fun i => ?_
  rw [List.getElem?_map]
  cases e : (ts.map V.ref)[i]? with
  | none =>
    have hl : (ts.map V.ref).length ≤ i := List.getElem?_eq_none_iff.mp e
    rw [List.length_map, h.len] at hl
    rw [List.getElem?_eq_none_iff.mpr hl]
    rfl
  | some x =>
    obtain ⟨t, g, rfl, eg, et⟩ := h.get e
    rw [eg]
    show some (prOf H (.ref t)) = some g
    rw [prOf_is et]
theorem GsAt.mem {H : Hp} {B : Addr → Prop} {a : Addr} {ts : List Addr} {gs : List (Int × Int)} (h : GsAt H B a ts gs) : ∀ x ∈ ts.map V.ref, ∃ t, x = V.ref t ∧ H t = some (.tup [.int (prOf H x).1, .int (prOf H x).2]) := fun x m => by
  obtain ⟨i, e⟩ := List.mem_iff_getElem?.mp m
  obtain ⟨t, g, rfl, eg, et⟩ := h.get e
  refine ⟨t, rfl, ?_⟩
  rw [prOf_is et]
  exact et
theorem sorted_prs {k : V → Int × Int} {ys xs : List V} {gs : List (Int × Int)} (f : Fit gs) (hx : xs.map k = gs) (hs : SrtO.Srtd (ltP k) ys) (hb : SrtO.Stb (ltP k) ys xs) : ys.reverse.map k = byAge gs := by
  refine byAge_of f ?_ ?_
  · rw [← hx]
    exact ((List.reverse_perm ys).trans hb.perm).map k
  · rw [List.map_reverse, List.pairwise_reverse, List.pairwise_map]
    refine hs.imp fun {a b} h => ?_
    have h' : SrtO.lexB (k b) (k a) = false := h
    rw [SrtO.lexB_no] at h'
    omega
theorem cut_1 (xs : List V) : cutV xs (some 1) none = xs.drop 1 := by
  unfold cutV
  rw [show HT.sIx xs.length 0 (some 1) = min 1 xs.length from HT.sIx_nat xs.length 0 1, HT.sIx_none]
  cases xs with
  | nil => rfl
  | cons x r =>
    rw [show min 1 (x :: r).length = 1 by
      rw [List.length_cons]
      omega]
    show (List.take ((x :: r).length - 1) r) = r
    rw [List.length_cons, Nat.add_sub_cancel]
    exact List.take_length
theorem lens_falls {gs : List (Int × Int)} (f : Fit gs) {i : Nat} {x y : Int} (h1 : (lens (settle gs))[i]? = some x) (h2 : ((lens (settle gs)).drop 1)[i]? = some y) : ¬ x < y := by
  rw [List.getElem?_drop] at h2
  unfold lens at h1 h2
  rw [List.getElem?_map] at h1 h2
  have hp := settleL_falls (byAge gs) f.byAge.pos
  cases e1 : (settle gs)[i]? with
  | none => rw [e1] at h1; cases h1
  | some r =>
    cases e2 : (settle gs)[1 + i]? with
    | none => rw [e2] at h2; cases h2
    | some s =>
      rw [e1] at h1
      rw [e2] at h2
      obtain rfl : (r.length : Int) = x := Option.some.inj h1
      obtain rfl : (s.length : Int) = y := Option.some.inj h2
      obtain ⟨l1, q1⟩ := List.getElem?_eq_some_iff.mp (show (settleL (byAge gs))[i]? = some r from e1)
      obtain ⟨l2, q2⟩ := List.getElem?_eq_some_iff.mp (show (settleL (byAge gs))[1 + i]? = some s from e2)
      have := List.pairwise_iff_getElem.mp hp i (1 + i) l1 l2 (by omega)
      rw [q1, q2] at this
      omega
theorem dget_pks {H : Hp} {d : Addr} {gs : List (Int × Int)} {g : Int × Int} (h : H d = some (.dK (pks gs))) (f : Fit gs) (m : g ∈ gs) : DGet H d (.int g.1) (some (.int g.2)) := by
  have q := DGet.k (k := Sum.inl g.1) h
  rw [pks_some f.nd m] at q
  exact q
theorem log_lt {m : Int} {k : Nat} (h0 : 0 < m) (h : m < 2 ^ k) : m.natAbs.log2 < k := by
  obtain ⟨j, rfl⟩ : ∃ j : Nat, m = j := ⟨m.toNat, by omega⟩
  have h' : j < 2 ^ k := by exact_mod_cast h
  rw [Int.natAbs_natCast]
  exact (Nat.log2_lt (by omega)).mpr h'
theorem GsAt.mix {H : Hp} {B B' : Addr → Prop} {a m : Addr} {ts : List Addr} {gs : List (Int × Int)} {ys : List V} (h : GsAt H B a ts gs) (e : H m = some (.lst ys)) (bm : B' m) (hb : ∀ b, B b → B' b) (p : ys.Perm (ts.map V.ref)) :
    ∃ ts' gs', GsAt H B' m ts' gs' ∧ gs'.Perm gs := by
  have hm : ∀ y ∈ ys, ∃ t, y = V.ref t ∧ t ∈ ts := fun y hy => by
    obtain ⟨t, ht, rfl⟩ := List.mem_map.mp (p.mem_iff.mp hy)
    exact ⟨t, rfl, ht⟩
  obtain ⟨us, rfl, hu⟩ : ∃ us : List Addr, ys = us.map V.ref ∧ ∀ u ∈ us, u ∈ ts := by
    clear p e
    induction ys with
    | nil => exact ⟨[], rfl, fun u hu => absurd hu (by simp)⟩
    | cons y ys ih =>
      obtain ⟨t, rfl, ht⟩ := hm y List.mem_cons_self
      obtain ⟨us, rfl, hu⟩ := ih fun z hz => hm z (List.mem_cons_of_mem _ hz)
      exact ⟨t :: us, rfl, fun u h => by
        rcases List.mem_cons.mp h with rfl | h
        · exact ht
        · exact hu u h⟩
  refine ⟨us, (us.map V.ref).map (prOf H), ⟨e, bm, by rw [List.length_map, List.length_map], fun i t g e1 e2 => ?_, fun t ht => hb t (h.b t (hu t ht))⟩, ?_⟩
  · rw [List.getElem?_map, List.getElem?_map, e1] at e2
    have e2' : prOf H (.ref t) = g := Option.some.inj e2
    obtain ⟨j, ej⟩ := List.mem_iff_getElem?.mp (hu t (List.mem_of_getElem? e1))
    obtain ⟨t', g', e3, eg, et⟩ := h.get (i := j) (x := .ref t) (by rw [List.getElem?_map, ej]; rfl)
    injection e3 with e3
    subst e3
    rw [prOf_is et] at e2'
    rw [← e2']
    exact et
  · have := p.map (prOf H)
    rw [h.prs] at this
    exact this
/-- put in anywhere -/
theorem GsAt.ins {H : Hp} {B : Addr → Prop} {a : Addr} {ts : List Addr} {gs : List (Int × Int)} {ys : List V} (h : GsAt H B a ts gs) (hn : a ∉ ts) {q : Addr} {g : Int × Int} (e : H q = some (.tup [.int g.1, .int g.2])) (bq : B q) (p : ys.Perm (ts.map V.ref ++ [.ref q])) :
    ∃ ts' gs', GsAt (upd H a (.lst ys)) B a ts' gs' ∧ gs'.Perm (gs ++ [g]) ∧ a ∉ ts' ∧ ys = ts'.map V.ref := by
  have nq : q ≠ a := fun z => by
    rw [z, h.top] at e
    cases e
  have hm : ∀ y ∈ ys, ∃ t, y = V.ref t ∧ t ∈ ts ++ [q] := fun y hy => by
    rcases List.mem_append.mp (p.mem_iff.mp hy) with m | m
    · obtain ⟨t, ht, rfl⟩ := List.mem_map.mp m
      exact ⟨t, rfl, List.mem_append_left _ ht⟩
    · exact ⟨q, List.mem_singleton.mp m, List.mem_append_right _ (List.mem_singleton.mpr rfl)⟩
  obtain ⟨us, rfl, hu⟩ : ∃ us : List Addr, ys = us.map V.ref ∧ ∀ u ∈ us, u ∈ ts ++ [q] := by
    clear p
    induction ys with
    | nil => exact ⟨[], rfl, fun u hu => absurd hu (by simp)⟩
    | cons y ys ih =>
      obtain ⟨t, rfl, ht⟩ := hm y List.mem_cons_self
      obtain ⟨us, rfl, hu⟩ := ih fun z hz => hm z (List.mem_cons_of_mem _ hz)
      exact ⟨t :: us, rfl, fun u h => by
        rcases List.mem_cons.mp h with rfl | h
        · exact ht
        · exact hu u h⟩
  have ha : ∀ u ∈ us, u ≠ a ∧ B u ∧ ∃ x : Int × Int, H u = some (.tup [.int x.1, .int x.2]) := fun u m => by
    rcases List.mem_append.mp (hu u m) with m | m
    · obtain ⟨j, ej⟩ := List.mem_iff_getElem?.mp m
      obtain ⟨t', g', e3, eg, et⟩ := h.get (i := j) (x := .ref u) (by rw [List.getElem?_map, ej]; rfl)
      injection e3 with e3
      subst e3
      exact ⟨fun z => hn (z ▸ m), h.b u m, g', et⟩
    · rw [List.mem_singleton.mp m]
      exact ⟨nq, bq, g, e⟩
  refine ⟨us, (us.map V.ref).map (prOf H), ⟨upd_same, h.ba, by rw [List.length_map, List.length_map], fun i t x e1 e2 => ?_, fun t m => (ha t m).2.1⟩, ?_, fun m => (ha a m).1 rfl, rfl⟩
  · rw [List.getElem?_map, List.getElem?_map, e1] at e2
    have e2' : prOf H (.ref t) = x := Option.some.inj e2
    obtain ⟨n1, _, y, ey⟩ := ha t (List.mem_of_getElem? e1)
    rw [prOf_is ey] at e2'
    subst e2'
    rw [upd_ne n1]
    exact ey
  · have := p.map (prOf H)
    rw [List.map_append, h.prs] at this
    rw [show [V.ref q].map (prOf H) = [g] by show [prOf H (.ref q)] = [g]; rw [prOf_is e]] at this
    exact this
theorem GsAt.cat {H : Hp} {B : Addr → Prop} {a l : Addr} {ts : List Addr} {gs : List (Int × Int)} (h : GsAt H B a ts gs) {q : Addr} {g : Int × Int} (e : H q = some (.tup [.int g.1, .int g.2])) (el : H l = some (.lst (ts.map V.ref ++ [.ref q]))) :
    GsAt H (fun _ => True) l (ts ++ [q]) (gs ++ [g]) := by
  refine ⟨by rw [List.map_append]; exact el, trivial, by rw [List.length_append, List.length_append, h.len]; rfl, fun i t x e1 e2 => ?_, fun _ _ => trivial⟩
  by_cases hi : i < ts.length
  · rw [List.getElem?_append_left hi] at e1
    rw [List.getElem?_append_left (by rw [← h.len]; exact hi)] at e2
    exact h.at' i t x e1 e2
  · have hi' : i = ts.length := by
      have := at_lt e1
      rw [List.length_append, List.length_singleton] at this
      omega
    subst hi'
    rw [List.getElem?_append_right (Nat.le_refl _), Nat.sub_self] at e1
    rw [h.len, List.getElem?_append_right (Nat.le_refl _), Nat.sub_self] at e2
    obtain rfl : q = t := Option.some.inj e1
    obtain rfl : g = x := Option.some.inj e2
    exact e
theorem inV_ints (x : Int) (ns : List Int) : inV (.int x) (ns.map V.int) = decide (x ∈ ns) := by
  unfold inV
  rw [List.any_map]
  induction ns with
  | nil => rfl
  | cons n ns ih =>
    rw [List.any_cons, ih]
    have e : ((fun y => eqV y (V.int x)) ∘ V.int) n = decide (x = n) := by
      show eqV (.int n) (.int x) = decide (x = n)
      have e2 : eqV (.int n) (.int x) = decide (n = x) := by
        unfold eqV
        first | rfl | simp
      rw [e2]
      by_cases h : n = x
      · subst h; simp
      · rw [decide_eq_false h, decide_eq_false (fun z => h z.symm)]
    rw [e]
    by_cases h : x = n
    · subst h
      simp
    · rw [decide_eq_false h, Bool.false_or]
      by_cases h2 : x ∈ ns
      · rw [decide_eq_true h2, decide_eq_true (List.mem_cons_of_mem _ h2)]
      · rw [decide_eq_false h2, decide_eq_false (fun z => (List.mem_cons.mp z).elim h h2)]
theorem flat_ints (ns : List Int) : (ns.map V.int).all flatV = true := by
  rw [List.all_map, List.all_eq_true]
  intro x _
  rfl
theorem eqvAll_ints : ∀ a b : List Int, PyData.eqvAll (a.map .int) (b.map .int) = decide (a = b)
  | [], [] => rfl
  | [], y :: b => by
    rw [decide_eq_false (by simp)]
    rfl
  | x :: a, [] => by
    rw [decide_eq_false (by simp)]
    rfl
  | x :: a, y :: b => by
    rw [List.map_cons, List.map_cons, PyData.eqvAll, eqvAll_ints a b]
    show ((x == y) && decide (a = b)) = _
    by_cases h : x = y
    · subst h
      by_cases h2 : a = b
      · subst h2
        simp
      · rw [decide_eq_false h2, decide_eq_false (fun z => h2 (List.cons.inj z).2)]
        simp
    · have : (x == y) = false := by simpa using h
      rw [this, decide_eq_false (fun z => h (List.cons.inj z).1)]
      rfl
theorem eqv_ints (a b : List Int) : PyData.eqv (dInts a) (dInts b) = decide (a = b) := by
  unfold dInts
  rw [PyData.eqv]
  exact eqvAll_ints a b
theorem cut_at (xs : List V) (k : Nat) : cutV xs (some (k : Int)) (some ((k : Int) + 1)) = (xs.drop k).take 1 := by
  unfold cutV
  rw [HT.sIx_nat, show (k : Int) + 1 = ((k + 1 : Nat) : Int) by omega, HT.sIx_nat]
  by_cases h : k < xs.length
  · rw [Nat.min_eq_left (by omega), Nat.min_eq_left (by omega), Nat.add_sub_cancel_left]
  · have h1 : min k xs.length = xs.length := by omega
    have h2 : min (k + 1) xs.length = xs.length := by omega
    rw [h1, h2, Nat.sub_self, List.take_zero, List.drop_of_length_le (show xs.length ≤ k by omega)]
    rfl
theorem drop_take1 (L : List Int) (k : Nat) : (L.drop k).take 1 = L[k]?.toList := by
  by_cases h : k < L.length
  · rw [List.getElem?_eq_getElem h, List.drop_eq_getElem_cons h]
    rfl
  · rw [List.getElem?_eq_none (by omega), List.drop_of_length_le (by omega)]
    rfl
end El
namespace El
open PySem PySem.Spec PyProof.Rows L2
section
variable {X : Cx}
/-- len of a set of ints -/
theorem call_lenSI : CallR X (.builtin "len") (fun xs H Q => ∃ (a : Addr) (S : Int → Bool) (n : Nat), xs = [V.ref a] ∧ H a = some (SetO X.w a S n) ∧ n ≤ 100000 ∧ Q (.int n) H) := by
  intro pins s σ H xs us Q I r h
  obtain ⟨a, S, n, rfl, ha, hn, q⟩ := h
  rw [Vals.ref1 r]
  obtain ⟨o, es, ep, t, ho, hex, hd, _, _, _, hf, he⟩ := (setO_get I ha).setOf (P := X.prog)
  refine call_len_set ho hex hd hf (by rw [he]; exact Int.lt_of_le_of_lt (show (n : Int) ≤ 100000 by omega) (by decide)) ⟨.int n, H, I.tok _, ⟨_, by rw [he]⟩, q⟩
end
theorem piListK {X : Cx} {tg l : Expr} {tl : TE} (K : PySem.W.Frag) (hl : PE X l tl) (e : X.K = K := by rfl) : PI X tg l (iList K tl) := by
  subst e
  exact pi_list hl
/-- the outer walk of a comprehension with two fors, and the inner one -/
theorem out_it {J : It} {n : Nat} {G : Hp → Prop} {Y : Nat → Hp → V → Hp → Prop} (w : Walk J n G Y) {Qd : Hp → Prop} {H0 : Hp} {bd : (Hp → Prop) → V → Hp → Prop} (Pv : Nat → Hp → Prop) (h0 : Pv 0 H0) (hG : ∀ i H, i ≤ n → Pv i H → G H)
    (hs : ∀ i x H H', i < n → Pv i H → Y i H x H' → bd (Pv (i + 1)) x H') (hd : ∀ H, Pv n H → Qd H) :
    ∃ W : Nat → Nat → Hp → Prop, (∃ m, W 0 m H0) ∧ ∀ i m H, W i m H → (J.stop i H ∧ Qd H) ∨ (J.go i H ∧ ∃ Nx : Hp → Prop, (∀ H', Nx H' → ∃ m', m' < m ∧ W (i + 1) m' H') ∧ ∀ x H', J.yld i H x H' → bd Nx x H') := by
  refine ⟨fun i m H => m = n - i ∧ i ≤ n ∧ Pv i H, ⟨n, by simp, Nat.zero_le _, h0⟩, ?_⟩
  rintro i m H ⟨rfl, hi, p⟩
  have q := hG i H hi p
  by_cases hlt : i < n
  · exact .inr ⟨w.goes i H hlt q, Pv (i + 1), fun H' p' => ⟨n - (i + 1), by omega, rfl, hlt, p'⟩, fun x H' y => hs i x H H' hlt p (w.yields i H x H' hlt q y)⟩
  · have e : i = n := by omega
    subst e
    exact .inl ⟨w.stops H q, hd H p⟩
theorem cut_from (xs : List V) (j : Nat) : cutV xs (some (j : Int)) none = xs.drop j := by
  unfold cutV
  rw [HT.sIx_none, HT.sIx_nat]
  show (List.drop (min j xs.length) xs).take (xs.length - min j xs.length) = _
  by_cases h : j ≤ xs.length
  · rw [Nat.min_eq_left h, List.take_of_length_le (by rw [List.length_drop]; omega)]
  · rw [Nat.min_eq_right (by omega), List.drop_of_length_le (Nat.le_refl _), List.drop_of_length_le (show xs.length ≤ j by omega), List.take_nil]
/-- a list of lists of ints, read alone -/
structure RdAt (H : Hp) (o : Addr) (ts : List Addr) (rs : List (List Int)) : Prop where
  top : H o = some (.lst (ts.map V.ref))
  len : ts.length = rs.length
  at' : ∀ (i : Nat) (t : Addr) (r : List Int), ts[i]? = some t → rs[i]? = some r → H t = some (.lst (r.map V.int))
theorem RdAt.same {H H' : Hp} {a : Addr} {ts : List Addr} {rs : List (List Int)} (h : RdAt H a ts rs) (k : Same H H') : RdAt H' a ts rs :=
  ⟨k _ _ h.top, h.len, fun i t g e f => k _ _ (h.at' i t g e f)⟩
theorem RdAt.seq {K : PySem.W.Frag} {H : Hp} {a : Addr} {ts : List Addr} {rs : List (List Int)} (h : RdAt H a ts rs) : SqL K H a (ts.map V.ref) := SqL.of h.top
theorem RmsAt.rd {H : Hp} {B : Addr → Prop} {a : Addr} {ts : List Addr} {rs : List (List Int)} (h : RmsAt H B a ts rs) : RdAt H a ts rs := ⟨h.top, h.len, h.at'⟩
theorem RdAt.get {H : Hp} {a : Addr} {ts : List Addr} {rs : List (List Int)} (h : RdAt H a ts rs) {i : Nat} {x : V} (e : (ts.map V.ref)[i]? = some x) : ∃ t r, x = .ref t ∧ ts[i]? = some t ∧ rs[i]? = some r ∧ H t = some (.lst (r.map V.int)) := by
  obtain ⟨t, e1, rfl⟩ := refs_at e
  have hi := at_lt e1
  rw [h.len] at hi
  obtain ⟨g, e2⟩ := at_some hi
  exact ⟨t, g, rfl, e1, e2, h.at' i t g e1 e2⟩
theorem pks_get {gs : List (Int × Int)} (nd : (gs.map (·.1)).Nodup) {a : Int} (m : a ∈ gs.map (·.1)) : valV (pks gs) (Sum.inl a) = some (.int (pof gs a)) := by
  obtain ⟨g, hg, rfl⟩ := List.mem_map.mp m
  rw [pks_some nd hg, pof_is nd hg]
theorem dget_pof {H : Hp} {d : Addr} {gs : List (Int × Int)} (h : H d = some (.dK (pks gs))) (nd : (gs.map (·.1)).Nodup) {a : Int} (m : a ∈ gs.map (·.1)) : DGet H d (.int a) (some (.int (pof gs a))) := by
  have z := DGet.k (k := Sum.inl a) h
  rw [pks_get nd m] at z
  exact z
theorem take_snoc_flat {rs : List (List Int)} {i : Nat} {r : List Int} (e : rs[i]? = some r) : (rs.take (i + 1)).flatten = (rs.take i).flatten ++ r := by
  rw [take_snoc e, List.flatten_append, List.flatten_cons, List.flatten_nil, List.append_nil]
theorem flat_split {rs : List (List Int)} {i j : Nat} {r : List Int} {a : Int} (nd : rs.flatten.Nodup) (e : rs[i]? = some r) (e2 : r[j]? = some a) : a ∉ (rs.take i).flatten ++ r.take j := by
  have h1 : rs.flatten = (rs.take i).flatten ++ (r ++ (rs.drop (i + 1)).flatten) := by
    have hi := at_lt e
    have h2 : rs = rs.take i ++ r :: rs.drop (i + 1) := by
      have := List.getElem_cons_drop (as := rs) (i := i) hi
      rw [List.getElem?_eq_getElem hi] at e
      rw [Option.some.inj e] at this
      rw [this, List.take_append_drop]
    rw [congrArg List.flatten h2, List.flatten_append, List.flatten_cons]
  have h3 : r = r.take j ++ a :: r.drop (j + 1) := by
    have hj := at_lt e2
    have := List.getElem_cons_drop (as := r) (i := j) hj
    rw [List.getElem?_eq_getElem hj] at e2
    rw [Option.some.inj e2] at this
    rw [this, List.take_append_drop]
  rw [h1] at nd
  generalize (rs.take i).flatten = x at nd ⊢
  generalize (rs.drop (i + 1)).flatten = y at nd
  rw [h3] at nd
  obtain ⟨_, n2, n3⟩ := List.nodup_append.mp nd
  intro m
  rcases List.mem_append.mp m with m | m
  · exact n3 a m a (List.mem_append_left _ (List.mem_append_right _ List.mem_cons_self)) rfl
  · obtain ⟨n4, _, _⟩ := List.nodup_append.mp n2
    obtain ⟨_, _, n7⟩ := List.nodup_append.mp n4
    exact n7 a m a List.mem_cons_self rfl
theorem flat_mem {rs : List (List Int)} {i j : Nat} {r : List Int} {a : Int} (e : rs[i]? = some r) (e2 : r[j]? = some a) : a ∈ rs.flatten :=
  List.mem_flatten.mpr ⟨r, List.mem_of_getElem? e, List.mem_of_getElem? e2⟩
end El
namespace El
open PySem PySem.Spec PyProof.Rows L2
/-- [f(a, b) for a, b in gs], pairs of ints to ints -/
theorem lc_prs {K : PySem.W.Frag} {B : Addr → Prop} {a D : Addr} {ts : List Addr} {gs : List (Int × Int)} {i j : Nat} {te : TE} {vs : List Nat} {σ : L2.St} {H1 : Hp} {Qd : Hp → Prop} (f : Int × Int → Int) (hG : GsAt H1 B a ts gs) (hD : H1 D = none) (hl : gs.length ≤ 1000)
    (he : ∀ (z : Int × Int) (H' : Hp), z ∈ gs → Same H1 H' → ∀ Q : VK, Q (.int (f z)) H' → te (((wipe σ vs).set i (some (.int z.1))).set j (some (.int z.2))) H' Q) (hw : ∀ z : Int × Int, wipe (((wipe σ vs).set i (some (.int z.1))).set j (some (.int z.2))) vs = wipe σ vs)
    (hd : ∀ H2, Same H1 H2 → H2 D = some (.lst ((gs.map f).map V.int)) → Qd H2) :
    ∃ W : Nat → Nat → Hp → Prop, (∃ m, W 0 m (upd H1 D (.lst []))) ∧ ∀ k m H, W k m H →
      ((Itl K a).stop k H ∧ Qd H) ∨ ((Itl K a).go k H ∧ ∃ Nx : Hp → Prop, (∀ H', Nx H' → ∃ m', m' < m ∧ W (k + 1) m' H') ∧ ∀ x H', (Itl K a).yld k H x H' → gTup K 2 (gCons (gName i) (gCons (gName j) gNil)) x (wipe σ vs) H' fun σ2 H2 => wipe σ2 vs = wipe σ vs ∧ tYes σ2 H2 fun b H3 =>
        if b = true then te σ2 H3 fun y H4 => ∃ acc, H4 D = some (.lst acc) ∧ acc.length < sizeLine ∧ Nx (upd H4 D (.lst (acc ++ [y]))) else Nx H3) := by
  refine lc_it (walk_list (xs := ts.map V.ref)) (fun k H2 => Same H1 H2 ∧ H2 D = some (.lst (((gs.take k).map f).map V.int))) ⟨same_new hD, upd_same⟩ (fun k H2 _ hW => ?_) (fun k x H2 H3 hk hW hY => ?_) (fun H2 hW => ?_)
  · exact (hG.same hW.1).seq
  · obtain ⟨sm, e⟩ := hW
    obtain ⟨rfl, hx⟩ := hY
    obtain ⟨t, z, rfl, ez, et⟩ := (hG.same sm).get hx
    refine ⟨t, _, rfl, SqT.of et, rfl, .int z.1, _, rfl, .int z.2, _, rfl, rfl, ?_⟩
    refine ⟨hw z, he z H3 (List.mem_of_getElem? ez) sm _ ⟨_, e, ils (by rw [List.length_map, List.length_map, List.length_take]; omega), Same.mut sm hD, ?_⟩⟩
    rw [upd_same, take_snoc ez, List.map_append, List.map_append]
    rfl
  · obtain ⟨sm, e⟩ := hW
    rw [List.length_map, hG.len, take_full] at e
    exact hd H2 sm e
theorem GsAt.top' {H : Hp} {B : Addr → Prop} {a : Addr} {ts : List Addr} {gs : List (Int × Int)} (h : GsAt H B a ts gs) {b : Addr} (e : H b = some (.lst (ts.map V.ref))) : GsAt H (fun _ => True) b ts gs := ⟨e, trivial, h.len, h.at', fun _ _ => trivial⟩
/-- a pair of a list of pairs, by its place -/
theorem GsAt.at_ {H : Hp} {B : Addr → Prop} {a : Addr} {ts : List Addr} {gs : List (Int × Int)} (h : GsAt H B a ts gs) {i : Nat} {g : Int × Int} (e : gs[i]? = some g) : ∃ t, (ts.map V.ref)[i]? = some (.ref t) ∧ H t = some (.tup [.int g.1, .int g.2]) := by
  have hl := at_lt e
  rw [← h.len] at hl
  obtain ⟨t, e2⟩ := at_some hl
  exact ⟨t, by rw [List.getElem?_map, e2]; rfl, h.at' i t g e2 e⟩
theorem pick2 {P : Int → Prop} {a b r : Int} (h0 : 0 ≤ r) (h1 : r < 2) (pa : P a) (pb : P b) : ∃ v : Int, atI [V.int a, .int b] r = some (.int v) ∧ P v := by
  obtain ⟨v, hv, mv⟩ := at_pick (xs := [V.int a, .int b]) h0 h1
  rcases List.mem_cons.mp mv with rfl | mv
  · exact ⟨_, hv, pa⟩
  · obtain rfl := List.mem_singleton.mp mv
    exact ⟨_, hv, pb⟩
theorem pick3 {P : Int → Prop} {a b c r : Int} (h0 : 0 ≤ r) (h1 : r < 3) (pa : P a) (pb : P b) (pc : P c) : ∃ v : Int, atI [V.int a, .int b, .int c] r = some (.int v) ∧ P v := by
  obtain ⟨v, hv, mv⟩ := at_pick (xs := [V.int a, .int b, .int c]) h0 h1
  rcases List.mem_cons.mp mv with rfl | mv
  · exact ⟨_, hv, pa⟩
  rcases List.mem_cons.mp mv with rfl | mv
  · exact ⟨_, hv, pb⟩
  · obtain rfl := List.mem_singleton.mp mv
    exact ⟨_, hv, pc⟩
theorem pick4 {P : Int → Prop} {a b c d r : Int} (h0 : 0 ≤ r) (h1 : r < 4) (pa : P a) (pb : P b) (pc : P c) (pd : P d) : ∃ v : Int, atI [V.int a, .int b, .int c, .int d] r = some (.int v) ∧ P v := by
  obtain ⟨v, hv, mv⟩ := at_pick (xs := [V.int a, .int b, .int c, .int d]) h0 h1
  rcases List.mem_cons.mp mv with rfl | mv
  · exact ⟨_, hv, pa⟩
  rcases List.mem_cons.mp mv with rfl | mv
  · exact ⟨_, hv, pb⟩
  rcases List.mem_cons.mp mv with rfl | mv
  · exact ⟨_, hv, pc⟩
  · obtain rfl := List.mem_singleton.mp mv
    exact ⟨_, hv, pd⟩
theorem pickL {P : Int → Prop} {L : List Int} {r : Int} (h0 : 0 ≤ r) (h1 : r < L.length) (p : ∀ x ∈ L, P x) : ∃ v : Int, atI (L.map V.int) r = some (.int v) ∧ P v := by
  obtain ⟨v, hv, mv⟩ := at_pick (xs := L.map V.int) h0 (by rw [List.length_map]; exact h1)
  obtain ⟨x, mx, rfl⟩ := List.mem_map.mp mv
  exact ⟨x, hv, p x mx⟩
/-- pairs that stand at these, whatever list tells them -/
structure Prs (H : Hp) (ts : List Addr) (gs : List (Int × Int)) : Prop where
  len : ts.length = gs.length
  at' : ∀ (i : Nat) (t : Addr) (g : Int × Int), ts[i]? = some t → gs[i]? = some g → H t = some (.tup [.int g.1, .int g.2])
theorem GsAt.pr {H : Hp} {B : Addr → Prop} {a : Addr} {ts : List Addr} {gs : List (Int × Int)} (h : GsAt H B a ts gs) : Prs H ts gs := ⟨h.len, h.at'⟩
theorem Prs.gs {H : Hp} {a : Addr} {ts : List Addr} {gs : List (Int × Int)} (h : Prs H ts gs) (e : H a = some (.lst (ts.map V.ref))) : GsAt H (fun _ => True) a ts gs := ⟨e, trivial, h.len, h.at', fun _ _ => trivial⟩
theorem Prs.same {H H' : Hp} {ts : List Addr} {gs : List (Int × Int)} (h : Prs H ts gs) (k : Same H H') : Prs H' ts gs := ⟨h.len, fun i t g e f => k _ _ (h.at' i t g e f)⟩
theorem Prs.nil {H : Hp} : Prs H [] [] := ⟨rfl, fun i t g e _ => by simp at e⟩
theorem Prs.cons {H : Hp} {t : Addr} {g : Int × Int} {ts : List Addr} {gs : List (Int × Int)} (e : H t = some (.tup [.int g.1, .int g.2])) (h : Prs H ts gs) : Prs H (t :: ts) (g :: gs) := by
  refine ⟨by rw [List.length_cons, List.length_cons, h.len], fun i u x e1 e2 => ?_⟩
  cases i with
  | zero =>
    obtain rfl : t = u := Option.some.inj e1
    obtain rfl : g = x := Option.some.inj e2
    exact e
  | succ i => exact h.at' i u x (by simpa using e1) (by simpa using e2)
theorem Prs.cat {H : Hp} {ts us : List Addr} {gs hs : List (Int × Int)} (h : Prs H ts gs) (k : Prs H us hs) : Prs H (ts ++ us) (gs ++ hs) := by
  refine ⟨by rw [List.length_append, List.length_append, h.len, k.len], fun i t r e1 e2 => ?_⟩
  by_cases hi : i < ts.length
  · rw [List.getElem?_append_left hi] at e1
    rw [List.getElem?_append_left (by rw [← h.len]; exact hi)] at e2
    exact h.at' i t r e1 e2
  · rw [List.getElem?_append_right (by omega)] at e1
    rw [List.getElem?_append_right (by rw [← h.len]; omega), ← h.len] at e2
    exact k.at' _ t r e1 e2
theorem Prs.take {H : Hp} {ts : List Addr} {gs : List (Int × Int)} (h : Prs H ts gs) (n : Nat) : Prs H (ts.take n) (gs.take n) := by
  refine ⟨by rw [List.length_take, List.length_take, h.len], fun i t r e1 e2 => ?_⟩
  rw [List.getElem?_take] at e1 e2
  split at e1
  · rename_i hi
    rw [if_pos hi] at e2
    exact h.at' i t r e1 e2
  · cases e1
theorem Prs.drop {H : Hp} {ts : List Addr} {gs : List (Int × Int)} (h : Prs H ts gs) (n : Nat) : Prs H (ts.drop n) (gs.drop n) := by
  refine ⟨by rw [List.length_drop, List.length_drop, h.len], fun i t r e1 e2 => ?_⟩
  rw [List.getElem?_drop] at e1 e2
  exact h.at' _ t r e1 e2
theorem cutFrom (xs : List V) (j : Nat) : cutV xs (some (j : Int)) none = xs.drop j := by
  unfold cutV
  rw [HT.sIx_none, HT.sIx_nat]
  show (List.drop (min j xs.length) xs).take (xs.length - min j xs.length) = _
  by_cases h : j ≤ xs.length
  · rw [Nat.min_eq_left h, List.take_of_length_le (by rw [List.length_drop]; omega)]
  · rw [Nat.min_eq_right (by omega), List.drop_of_length_le (Nat.le_refl _), List.drop_of_length_le (show xs.length ≤ j by omega), List.take_nil]
theorem iteX {c : Bool} {A B : Prop} (hc : c = false) (h : B) : if c = true then A else B := by
  rw [hc]
  exact iteF h
theorem nd_self (x : V) : (!decide (x = x)) = false := by rw [decide_eq_true rfl]; rfl
theorem log2_lt {x : Int} {k : Nat} (h0 : 0 ≤ x) (h1 : x < 2 ^ k) (hk : 0 < k) : x.natAbs.log2 < k := by
  by_cases h4 : x.natAbs = 0
  · rw [h4]; exact Nat.lt_of_le_of_lt (by decide) hk
  · refine (Nat.log2_lt h4).mpr ?_
    have : ((x.natAbs : Nat) : Int) < ((2 ^ k : Nat) : Int) := by
      rw [show ((x.natAbs : Nat) : Int) = x by omega]
      exact_mod_cast h1
    exact_mod_cast this
theorem part_at {gs : List (Int × Int)} {i : Nat} {g : Int × Int} (e : gs[i]? = some g) : gs = gs.take i ++ [g] ++ gs.drop (i + 1) := by
  have hi := at_lt e
  have h2 := List.getElem_cons_drop (as := gs) (i := i) hi
  rw [List.getElem?_eq_getElem hi] at e
  rw [Option.some.inj e] at h2
  rw [List.append_assoc]
  show gs = gs.take i ++ (g :: gs.drop (i + 1))
  rw [h2, List.take_append_drop]
theorem rg0 {i : Nat} {x : V} (h : x = V.int (0 + (i : Int))) : x = V.int (i : Int) := by
  rw [h, Int.zero_add]
end El
namespace El
/-- a crowd comes to a first room in which h live -/
def kst (h : Int) (c : Int × Int) : Int := if c.2 + 1 ≤ h then h else if h + c.1 ≤ c.2 + 1 then h + c.1 else c.2 + 1
def stay (cs : List (Int × Int)) (n : Int) : Int := cs.foldl kst n
def Crw (cs : List (Int × Int)) : Prop := ∀ c ∈ cs, 1 ≤ c.1 ∧ 0 ≤ c.2
theorem stay_snoc (cs : List (Int × Int)) (c : Int × Int) (n : Int) : stay (cs ++ [c]) n = kst (stay cs n) c := by
  unfold stay
  rw [List.foldl_append]
  rfl
theorem stay_cat (cs ds : List (Int × Int)) (n : Int) : stay (cs ++ ds) n = stay ds (stay cs n) := by
  unfold stay
  rw [List.foldl_append]
theorem stay_cons (c : Int × Int) (cs : List (Int × Int)) (n : Int) : stay (c :: cs) n = stay cs (kst n c) := rfl
theorem kst_ge (h : Int) (c : Int × Int) (k : 1 ≤ c.1) : h ≤ kst h c := by
  unfold kst
  split
  · omega
  · split <;> omega
/-- one elder more: as many, or one more -/
theorem kst_one (h h' : Int) (c : Int × Int) (k : 1 ≤ c.1) (d : h' = h ∨ h' = h + 1) : kst h' c = kst h c ∨ kst h' c = kst h c + 1 := by
  unfold kst
  split <;> split <;> (try split) <;> (try split) <;> omega
theorem Crw.cons {c : Int × Int} {cs : List (Int × Int)} (h : Crw (c :: cs)) : (1 ≤ c.1 ∧ 0 ≤ c.2) ∧ Crw cs := ⟨h c List.mem_cons_self, fun d m => h d (List.mem_cons_of_mem _ m)⟩
theorem Crw.cat {cs ds : List (Int × Int)} (h : Crw cs) (k : Crw ds) : Crw (cs ++ ds) := fun c m => (List.mem_append.mp m).elim (h c) (k c)
theorem stay_ge : ∀ {cs : List (Int × Int)}, Crw cs → ∀ n, n ≤ stay cs n
  | [], _, n => Int.le_refl _
  | c :: cs, h, n => by
    rw [stay_cons]
    exact Int.le_trans (kst_ge n c h.cons.1.1) (stay_ge h.cons.2 _)
theorem stay_one : ∀ {cs : List (Int × Int)}, Crw cs → ∀ n n', (n' = n ∨ n' = n + 1) → stay cs n' = stay cs n ∨ stay cs n' = stay cs n + 1
  | [], _, n, n', d => d
  | c :: cs, h, n, n', d => by
    rw [stay_cons, stay_cons]
    exact stay_one h.cons.2 _ _ (kst_one n n' c h.cons.1.1 d)
/-- a crowd parted in two -/
theorem kst_part (h : Int) (a b p : Int) (ha : 1 ≤ a) (hb : 1 ≤ b) : kst (kst h (a, p)) (b, p) = kst h (a + b, p) := by
  unfold kst
  dsimp only
  split <;> (try split) <;> (try split) <;> (try split) <;> (try split) <;> omega
end El
namespace El
theorem stay_lt {M : Int} : ∀ {cs : List (Int × Int)}, (∀ c ∈ cs, c.2 + 1 < M) → ∀ n, n < M → stay cs n < M
  | [], _, n, h => h
  | c :: cs, k, n, h => by
    rw [stay_cons]
    refine stay_lt (fun d m => k d (List.mem_cons_of_mem _ m)) _ ?_
    have := k c List.mem_cons_self
    unfold kst
    split
    · omega
    · split <;> omega
theorem kst_0 (h p : Int) : kst h (0, p) = h := by
  unfold kst
  dsimp only
  split
  · rfl
  · split <;> omega
theorem kst_succ (h p : Int) (k : Nat) : kst h (((k + 1 : Nat) : Int), p) = kst h ((k : Int), p) + (if decide (kst h ((k : Int), p) ≤ p) = true then 1 else 0) := by
  by_cases e : kst h ((k : Int), p) ≤ p
  · rw [decide_eq_true e, if_pos rfl]
    unfold kst at e ⊢
    dsimp only at e ⊢
    split <;> (try split) <;> (try split) <;> (try split) <;> (split at e) <;> (try split at e) <;> omega
  · rw [decide_eq_false e, if_neg (by decide), Int.add_zero]
    unfold kst at e ⊢
    dsimp only at e ⊢
    split <;> (try split) <;> (try split) <;> (try split) <;> (split at e) <;> (try split at e) <;> omega
end El
namespace El
open PySem PySem.Spec PyProof.Rows L2 SX
/-! ### numbers as texts -/
def numI (i : Int) : List Nat := if 0 ≤ i then TL.numL i.toNat else 45 :: TL.numL (0 - i).toNat
theorem numI_nat (n : Nat) : numI (n : Int) = TL.numL n := by
  unfold numI
  rw [if_pos (by omega), Int.toNat_natCast]
theorem numI_neg {i : Int} (h : i < 0) : numI i = 45 :: TL.numL (0 - i).toNat := by
  unfold numI
  rw [if_neg (by omega)]
theorem ofs_cat (a b : String) : Str.ofString (a ++ b) = Str.ofString a ++ Str.ofString b := by
  have ofs : ∀ s : String, (Str.ofString s).cps.toList = s.toList.map Char.toNat := fun s => by
    rw [Str.ofString_eq_toList]
  refine TL.ext_tl ?_
  show (Str.ofString (a ++ b)).cps.toList = (Str.ofString a ++ Str.ofString b).cps.toList
  rw [ofs, PySem.Str.cps_append, Array.toList_append, ofs, ofs, String.toList_append, List.map_append]
theorem text_S (i : Int) : Str.ofString (toString i) = S (numI i) := by
  by_cases h : 0 ≤ i
  · obtain ⟨n, rfl⟩ : ∃ n : Nat, i = n := ⟨i.toNat, by omega⟩
    rw [numI_nat, num_S]
  · rw [PyProof.Rows.toString_neg (by omega), numI_neg (by omega)]
    have e : (0 - i : Int) = (((0 - i).toNat : Nat) : Int) := by omega
    have e2 : Str.ofString ("-" ++ toString (0 - i)) = Str.ofString "-" ++ Str.ofString (toString (0 - i)) := ofs_cat _ _
    rw [e2, e, num_S, Int.toNat_natCast]
    show S [45] ++ _ = _
    rw [S_cat]
    rfl
def Sm (i : Int) : Prop := i.natAbs < 10 ^ 30
theorem digit_all {l : List Nat} (h : NumText.AllDigits l) : l.all (fun c => decide (48 ≤ c) && decide (c ≤ 57)) = true := by
  rw [List.all_eq_true]
  intro c m
  have := h c m
  rw [decide_eq_true this.1, decide_eq_true this.2]
  rfl
theorem uni_digit : ∀ c : Nat, c < 128 → Unicode.isDigit c = (decide (48 ≤ c) && decide (c ≤ 57)) := by decide +kernel
theorem digits_word {l : List Nat} : (Txt.isascii (S l) && Txt.isdigit (S l)) = (!l.isEmpty && l.all (fun c => decide (48 ≤ c) && decide (c ≤ 57))) := by
  have e1 : Txt.isascii (S l) = l.all (fun c => decide (c < 128)) := by
    show (l.toArray).all _ = _
    rw [← Array.all_toList]
  have e2 : Txt.isdigit (S l) = (!l.isEmpty && l.all Unicode.isDigit) := by
    show (decide ((S l).length > 0) && (l.toArray).all Unicode.isDigit) = _
    rw [← Array.all_toList, S_len]
    cases l with
    | nil => rfl
    | cons x r => rfl
  rw [e1, e2]
  clear e1 e2
  induction l with
  | nil => rfl
  | cons c r ih =>
    rw [List.all_cons, List.all_cons, List.all_cons]
    cases r with
    | nil =>
      by_cases h : c < 128
      · rw [uni_digit c h, decide_eq_true h]
        rfl
      · rw [decide_eq_false h]
        have : (decide (48 ≤ c) && decide (c ≤ 57)) = false := by rw [decide_eq_false (show ¬ c ≤ 57 by omega), Bool.and_false]
        rw [this]
        rfl
    | cons d r =>
      have ih' : (List.all (d :: r) (fun c => decide (c < 128)) && (true && List.all (d :: r) Unicode.isDigit)) = (true && List.all (d :: r) fun c => decide (48 ≤ c) && decide (c ≤ 57)) := ih
      by_cases h : c < 128
      · rw [uni_digit c h, decide_eq_true h]
        cases hd : (decide (48 ≤ c) && decide (c ≤ 57)) with
        | true =>
          show (true && List.all (d :: r) _ && (true && (true && List.all (d :: r) _))) = (true && (true && List.all (d :: r) _))
          rw [Bool.true_and, Bool.true_and, Bool.true_and]
          exact ih'
        | false => simp
      · rw [decide_eq_false h]
        have : (decide (48 ≤ c) && decide (c ≤ 57)) = false := by rw [decide_eq_false (show ¬ c ≤ 57 by omega), Bool.and_false]
        rw [this]
        simp
def unsign : List Nat → List Nat
  | [] => []
  | c :: r => if c = 45 then r else c :: r
theorem prefix_off (l : List Nat) : Txt.removeprefix (S l) (S [45]) = S (unsign l) := by
  have hs : Builtin.Str.subAt (S l) (S [45]) 0 = decide (l.take 1 = [45]) := by
    rw [PySem.StrLaws.subAt_eq, S_len]
    show ((l.drop 0).take 1 == [45]) = _
    rw [List.drop_zero]
    by_cases h : l.take 1 = [45]
    · rw [h]; rfl
    · rw [decide_eq_false h]
      exact beq_eq_false_iff_ne.mpr h
  unfold Txt.removeprefix Txt.affix
  rw [hs]
  cases l with
  | nil => rfl
  | cons c r =>
    by_cases h : c = 45
    · subst h
      rw [decide_eq_true (by rfl), if_pos rfl, S_len, S_len]
      show (if ((r.length + 1) - 1 == r.length + 1) = true then S (45 :: r) else Builtin.Str.strSub (S (45 :: r)) 1 (r.length + 1)) = S r
      rw [if_neg (by rw [beq_iff_eq]; omega)]
      refine TL.ext_tl ?_
      show (Builtin.Str.strSub (S (45 :: r)) 1 (r.length + 1)).cps.toList = r
      rw [PySem.StrLaws.strSub_toList]
      show (r.take (r.length + 1 - 1)) = r
      rw [Nat.add_sub_cancel, List.take_length]
    · have hne : ¬ (c :: r).take 1 = [45] := fun z => h (List.cons.inj z).1
      rw [decide_eq_false hne, if_neg Bool.false_ne_true]
      show S (c :: r) = S (if c = 45 then r else c :: r)
      rw [if_neg h]
theorem unsign_num (i : Int) : unsign (numI i) = TL.numL i.natAbs := by
  by_cases h : 0 ≤ i
  · obtain ⟨n, rfl⟩ : ∃ n : Nat, i = n := ⟨i.toNat, by omega⟩
    rw [numI_nat, Int.natAbs_natCast]
    cases e : TL.numL n with
    | nil => exact absurd e (TL.numL_ne n)
    | cons c r =>
      have hc := TL.numL_digits n c (by rw [e]; exact List.mem_cons_self)
      show (if c = 45 then r else c :: r) = _
      rw [if_neg (by omega)]
  · rw [numI_neg (by omega)]
    show TL.numL (0 - i).toNat = _
    congr 1
    omega
theorem numI_len {i : Int} (h : Sm i) : (numI i).length ≤ 31 := by
  unfold Sm at h
  by_cases h0 : 0 ≤ i
  · obtain ⟨n, rfl⟩ : ∃ n : Nat, i = n := ⟨i.toNat, by omega⟩
    rw [numI_nat]
    exact Nat.le_succ_of_le (TL.numL_len (by decide) (by rw [Int.natAbs_natCast] at h; exact h))
  · rw [numI_neg (by omega), List.length_cons]
    exact Nat.succ_le_succ (TL.numL_len (by decide) (by
      have : (0 - i).toNat = i.natAbs := by omega
      rw [this]
      exact h))
theorem numI_ne (i : Int) : numI i ≠ [] := by
  unfold numI
  split
  · exact TL.numL_ne _
  · simp
/-- no other signs than - and figures -/
theorem numI_free {c : Nat} (i : Int) (h1 : c ≠ 45) (h2 : c < 48 ∨ 57 < c) : c ∉ numI i := by
  unfold numI
  split
  · exact TL.numL_free h2
  · intro m
    rcases List.mem_cons.mp m with e | m
    · exact h1 e
    · exact TL.numL_free h2 m
theorem numI_reads {i : Int} (h : Sm i) : intText? (S (numI i)) = some i := by
  by_cases h0 : 0 ≤ i
  · obtain ⟨n, rfl⟩ : ∃ n : Nat, i = n := ⟨i.toNat, by omega⟩
    rw [numI_nat, int_S (digit_all (TL.numL_digits n)) (TL.numL_ne n) (by
      have := numI_len h
      rw [numI_nat] at this
      omega), TL.numL_val]
  · have hl := numI_len h
    rw [numI_neg (by omega)] at hl ⊢
    rw [intText_neg (cs := TL.numL (0 - i).toNat) rfl (TL.numL_digits _) (TL.numL_ne _) (by rw [S_len]; omega), TL.numL_val]
    congr 1
    omega
theorem numI_inj {i j : Int} (h : numI i = numI j) : i = j := by
  have h1 : unsign (numI i) = unsign (numI j) := by rw [h]
  rw [unsign_num, unsign_num] at h1
  have h2 := TL.numL_inj h1
  by_cases a : 0 ≤ i
  · by_cases b : 0 ≤ j
    · omega
    · exfalso
      rw [numI_neg (show j < 0 by omega)] at h
      obtain ⟨n, rfl⟩ : ∃ n : Nat, i = n := ⟨i.toNat, by omega⟩
      rw [numI_nat] at h
      have := TL.numL_digits n 45 (by rw [h]; exact List.mem_cons_self)
      omega
  · by_cases b : 0 ≤ j
    · exfalso
      rw [numI_neg (show i < 0 by omega)] at h
      obtain ⟨n, rfl⟩ : ∃ n : Nat, j = n := ⟨j.toNat, by omega⟩
      rw [numI_nat] at h
      have := TL.numL_digits n 45 (by rw [← h]; exact List.mem_cons_self)
      omega
    · omega
theorem Sm.log {i : Int} (h : Sm i) : i.natAbs.log2 < 1920 := by
  unfold Sm at h
  by_cases h0 : i.natAbs = 0
  · rw [h0]; decide
  · exact Nat.lt_trans ((Nat.log2_lt h0).mpr (Nat.lt_trans h (by decide +kernel : 10 ^ 30 < 2 ^ 200))) (by decide)
end El
namespace El
open PySem PySem.Spec PyProof.Rows L2 SX
/-- a pair of numbers, and several, as texts -/
def twoW (c : Nat) (g : Int × Int) : List Nat := TL.joinL [c] [numI g.1, numI g.2]
def noneL : List Nat := [110, 111, 110, 101]
def textOf (c : Nat) (gs : List (Int × Int)) : List Nat := if gs = [] then noneL else TL.joinL [32] (gs.map (twoW c))
def Sms (gs : List (Int × Int)) : Prop := ∀ g ∈ gs, Sm g.1 ∧ Sm g.2
theorem none_S : ("none" : Str) = S noneL := by
  refine TL.ext_tl ?_
  decide +kernel
theorem one_S : ("x" : Str) = S [120] ∧ (":" : Str) = S [58] ∧ (" " : Str) = S [32] ∧ ("," : Str) = S [44] ∧ ("-" : Str) = S [45] ∧ (" | " : Str) = S [32, 124, 32] := by
  refine ⟨TL.ext_tl ?_, TL.ext_tl ?_, TL.ext_tl ?_, TL.ext_tl ?_, TL.ext_tl ?_, TL.ext_tl ?_⟩ <;> decide +kernel
theorem twoW_is (c : Nat) (g : Int × Int) : twoW c g = numI g.1 ++ ([c] ++ numI g.2) := rfl
theorem twoW_len {c : Nat} {g : Int × Int} (h : Sm g.1 ∧ Sm g.2) : (twoW c g).length ≤ 63 := by
  rw [twoW_is, List.length_append, List.length_append]
  have := numI_len h.1
  have := numI_len h.2
  show _ + (1 + _) ≤ _
  omega
theorem joinL_len (sep : List Nat) (k : Nat) : ∀ l : List (List Nat), (∀ w ∈ l, w.length ≤ k) → (TL.joinL sep l).length ≤ l.length * (k + sep.length)
  | [], _ => Nat.zero_le _
  | [w], h => by
    have := h w List.mem_cons_self
    show w.length ≤ 1 * (k + sep.length)
    omega
  | w :: v :: r, h => by
    have h1 := h w List.mem_cons_self
    have h2 := joinL_len sep k (v :: r) fun u m => h u (List.mem_cons_of_mem _ m)
    show (w ++ (sep ++ TL.joinL sep (v :: r))).length ≤ _
    rw [List.length_append, List.length_append, List.length_cons, Nat.add_mul, Nat.one_mul]
    omega
theorem textOf_len {c : Nat} {gs : List (Int × Int)} (h : Sms gs) : (textOf c gs).length ≤ gs.length * 64 + 4 := by
  unfold textOf
  split
  · show 4 ≤ _
    omega
  · refine Nat.le_trans (joinL_len [32] 63 _ fun w m => ?_) ?_
    · obtain ⟨g, mg, rfl⟩ := List.mem_map.mp m
      exact twoW_len (h g mg)
    · rw [List.length_map]
      show gs.length * 64 ≤ _
      omega
theorem two_free {c : Nat} {g : Int × Int} (hc : c ≠ 32) : 32 ∉ twoW c g := by
  rw [twoW_is]
  intro m
  rcases List.mem_append.mp m with m | m
  · exact numI_free g.1 (by decide) (by decide) m
  · rcases List.mem_append.mp m with m | m
    · exact hc (List.mem_singleton.mp m).symm
    · exact numI_free g.2 (by decide) (by decide) m
theorem split_text {c : Nat} {gs : List (Int × Int)} (hc : c ≠ 32) (h : gs ≠ []) : Txt.split (S (textOf c gs)) (S [32]) = (gs.map (twoW c)).map S := by
  unfold textOf
  rw [if_neg h, split_S (by decide) (by decide), spl_join (by simpa using h) fun w m => ?_]
  obtain ⟨g, _, rfl⟩ := List.mem_map.mp m
  exact two_free hc
theorem split_two {c : Nat} {g : Int × Int} (hc : c < 256) (h1 : c ≠ 45) (h2 : c < 48 ∨ 57 < c) : Txt.split (S (twoW c g)) (S [c]) = [numI g.1, numI g.2].map S := by
  unfold twoW
  rw [split_S (by simp) (by simp [hc]), spl_join (by simp) fun w m => ?_]
  rcases List.mem_cons.mp m with rfl | m
  · exact numI_free _ h1 h2
  · rw [List.mem_singleton.mp m]
    exact numI_free _ h1 h2
theorem S_ne {a b : List Nat} (h : a ≠ b) : S a ≠ S b := fun z => h (S_inj z)
/-- a text of some is not `none` -/
theorem text_none {c : Nat} {gs : List (Int × Int)} (hn : gs ≠ []) : textOf c gs ≠ noneL := by
  unfold textOf
  rw [if_neg hn]
  intro e
  cases gs with
  | nil => exact hn rfl
  | cons g gs =>
    have h1 : ∃ d r, numI g.1 = d :: r ∧ (d = 45 ∨ (48 ≤ d ∧ d ≤ 57)) := by
      unfold numI
      split
      · cases e2 : TL.numL g.1.toNat with
        | nil => exact absurd e2 (TL.numL_ne _)
        | cons d r => exact ⟨d, r, rfl, .inr (TL.numL_digits g.1.toNat d (by rw [e2]; exact List.mem_cons_self))⟩
      · exact ⟨45, _, rfl, .inl rfl⟩
    obtain ⟨d, r, e2, hd⟩ := h1
    have h3 : ∃ r', TL.joinL [32] ((g :: gs).map (twoW c)) = d :: r' := by
      rw [List.map_cons, twoW_is, e2]
      cases gs with
      | nil => exact ⟨_, rfl⟩
      | cons g2 gs => exact ⟨_, rfl⟩
    obtain ⟨r', e3⟩ := h3
    rw [e3] at e
    have := (List.cons.inj e).1
    omega
theorem text_pos {c : Nat} {gs : List (Int × Int)} (hn : gs ≠ []) : 0 < (textOf c gs).length := by
  unfold textOf
  rw [if_neg hn]
  cases gs with
  | nil => exact absurd rfl hn
  | cons g gs =>
    have h := numI_ne g.1
    have h1 : 0 < (twoW c g).length := by
      rw [twoW_is, List.length_append]
      have := List.length_pos_iff.mpr h
      omega
    rw [List.map_cons]
    cases gs with
    | nil => exact h1
    | cons g2 gs =>
      show 0 < (twoW c g ++ _).length
      rw [List.length_append]
      omega
theorem fs_two (a b : Int) (c : Nat) (x : Str) (hx : x = S [c]) : Str.empty ++ Str.ofString (toString a) ++ x ++ Str.ofString (toString b) = S (twoW c (a, b)) := by
  rw [PySem.Str.empty_append, hx, text_S, text_S, S_cat, S_cat, twoW_is, List.append_assoc]
theorem fs_two' (a b : Int) (c : Nat) (x : Str) (hx : x = S [c]) : Str.ofString (toString a) ++ x ++ Str.ofString (toString b) = S (twoW c (a, b)) := by
  rw [hx, text_S, text_S, S_cat, S_cat, twoW_is, List.append_assoc]
theorem text_small {i : Int} (h : Sm i) : (Str.ofString (toString i)).length ≤ 31 := by
  rw [text_S, S_len]
  exact numI_len h
theorem sum_lens {l : List Str} {k : Nat} (h : ∀ w ∈ l, w.length ≤ k) : (l.map (·.length)).sum ≤ l.length * k := by
  induction l with
  | nil => exact Nat.zero_le _
  | cons w l ih =>
    have h1 := h w List.mem_cons_self
    have h2 := ih fun v m => h v (List.mem_cons_of_mem _ m)
    rw [List.map_cons, List.sum_cons, List.length_cons, Nat.add_mul, Nat.one_mul]
    omega
theorem iteTx {c : Bool} {A B : Prop} (hc : c = true) (h : A) : if c = true then A else B := by rw [if_pos hc]; exact h
theorem digs_lt : ∀ (n : Nat) (cs : List Nat), cs.length = n → NumText.AllDigits cs → NumText.digitsVal cs < 10 ^ n
  | 0, cs, h, _ => by
    rw [List.length_eq_zero_iff.mp h]
    decide
  | n + 1, cs, h, hd => by
    rcases List.eq_nil_or_concat cs with rfl | ⟨a, d, rfl⟩
    · cases h
    · rw [List.concat_eq_append] at *
      rw [List.length_append] at h
      have ih := digs_lt n a (by simpa using h) fun c m => hd c (List.mem_append_left _ m)
      have h2 := hd d (List.mem_append_right _ (List.mem_singleton.mpr rfl))
      rw [NumText.digitsVal_snoc, Nat.pow_succ]
      omega
/-- a number of thirty figures and no more -/
theorem sm_len {i : Int} (h : (unsign (numI i)).length ≤ 30) : Sm i := by
  rw [unsign_num] at h
  have := digs_lt _ _ rfl (TL.numL_digits i.natAbs)
  rw [TL.numL_val] at this
  exact Nat.lt_of_lt_of_le this (Nat.pow_le_pow_right (by decide) h)
theorem len_sm {i : Int} (h : Sm i) : (unsign (numI i)).length ≤ 30 := by
  rw [unsign_num]
  exact TL.numL_len (by decide) h
theorem word_digits (l : List Nat) (h : (!l.isEmpty && l.all (fun c => decide (48 ≤ c) && decide (c ≤ 57))) = true) : NumText.AllDigits l ∧ l ≠ [] := by
  rw [Bool.and_eq_true] at h
  refine ⟨fun c m => ?_, fun e => by rw [e] at h; exact Bool.noConfusion h.1⟩
  have := List.all_eq_true.mp h.2 c m
  rw [Bool.and_eq_true] at this
  exact ⟨of_decide_eq_true this.1, of_decide_eq_true this.2⟩
theorem num_word (i : Int) : (!(unsign (numI i)).isEmpty && (unsign (numI i)).all (fun c => decide (48 ≤ c) && decide (c ≤ 57))) = true := by
  rw [unsign_num, digit_all (TL.numL_digits _), Bool.and_true]
  cases e : TL.numL i.natAbs with
  | nil => exact absurd e (TL.numL_ne _)
  | cons c r => rfl
/-- a word of a sign and figures is read as a number -/
theorem word_reads {l : List Nat} (h : (!(unsign l).isEmpty && (unsign l).all (fun c => decide (48 ≤ c) && decide (c ≤ 57))) = true) (hl : (unsign l).length ≤ 30) : ∃ n : Int, intText? (S l) = some n ∧ Sm n := by
  obtain ⟨hd, hn⟩ := word_digits _ h
  have hv := digs_lt _ _ rfl hd
  have hs : NumText.digitsVal (unsign l) < 10 ^ 30 := Nat.lt_of_lt_of_le hv (Nat.pow_le_pow_right (by decide) hl)
  cases l with
  | nil => exact absurd rfl hn
  | cons c r =>
    by_cases hc : c = 45
    · subst hc
      have e : unsign (45 :: r) = r := rfl
      rw [e] at hd hn hl hs
      refine ⟨-((NumText.digitsVal r : Nat) : Int), intText_neg rfl hd hn (by rw [S_len, List.length_cons]; omega), ?_⟩
      show (-((NumText.digitsVal r : Nat) : Int)).natAbs < _
      rw [Int.natAbs_neg, Int.natAbs_natCast]
      exact hs
    · have e : unsign (c :: r) = c :: r := if_neg hc
      rw [e] at hd hn hl hs
      refine ⟨((NumText.digitsVal (c :: r) : Nat) : Int), int_S (digit_all hd) hn (by omega), ?_⟩
      show (((NumText.digitsVal (c :: r) : Nat) : Int)).natAbs < _
      rw [Int.natAbs_natCast]
      exact hs
end El
namespace El
open PySem PySem.Spec PyProof.Rows L2
def topS (i : Nat) : Stmt := PySem.Challenge.pw_elderinn_k52_rooms_written.main.body.getD i (.Pass ⟨0, 0, 0, 0⟩)
end El
namespace El
open PySem PySem.Spec PyProof.Rows L2
/-- two values that say the same, at most n deep -/
def Sca : V → Bool
  | .non => true
  | .bl _ => true
  | .int _ => true
  | .str _ => true
  | _ => false
def Alk (H : Hp) : Nat → V → V → Prop
  | 0, x, y => Sca x = true ∧ x = y
  | n + 1, x, y => (Sca x = true ∧ x = y) ∨ ∃ (a b : Addr) (xs ys : List V), x = .ref a ∧ y = .ref b ∧ ((H a = some (.lst xs) ∧ H b = some (.lst ys)) ∨ (H a = some (.tup xs) ∧ H b = some (.tup ys))) ∧ xs.length = ys.length ∧ ys.length ≤ 100000 ∧
      ∀ (i : Nat) (u v : V), xs[i]? = some u → ys[i]? = some v → Alk H n u v
theorem Alk.keep {H H' : Hp} (k : Same H H') : ∀ {n : Nat} {x y : V}, Alk H n x y → Alk H' n x y
  | 0, _, _, h => h
  | n + 1, _, _, h => by
    rcases h with h | ⟨a, b, xs, ys, rfl, rfl, h1, h2, h3, h4⟩
    · exact .inl h
    · refine .inr ⟨a, b, xs, ys, rfl, rfl, ?_, h2, h3, fun i u v e f => Alk.keep k (h4 i u v e f)⟩
      rcases h1 with ⟨h1, h2⟩ | ⟨h1, h2⟩
      · exact .inl ⟨k _ _ h1, k _ _ h2⟩
      · exact .inr ⟨k _ _ h1, k _ _ h2⟩
theorem Alk.up {H : Hp} : ∀ {n : Nat} {x y : V}, Alk H n x y → Alk H (n + 1) x y
  | 0, _, _, h => .inl h
  | n + 1, _, _, h => by
    rcases h with h | ⟨a, b, xs, ys, rfl, rfl, h1, h2, h3, h4⟩
    · exact .inl h
    · exact .inr ⟨a, b, xs, ys, rfl, rfl, h1, h2, h3, fun i u v e f => Alk.up (h4 i u v e f)⟩
theorem Alk.int {H : Hp} {n : Nat} {i : Int} : Alk H n (.int i) (.int i) := by
  cases n with
  | zero => exact ⟨rfl, rfl⟩
  | succ n => exact .inl ⟨rfl, rfl⟩
theorem Alk.ints {H : Hp} {n : Nat} {a b : Addr} {ns : List Int} (h1 : H a = some (.lst (ns.map V.int))) (h2 : H b = some (.lst (ns.map V.int))) (hl : ns.length ≤ 100000) : Alk H (n + 1) (.ref a) (.ref b) :=
  .inr ⟨a, b, _, _, rfl, rfl, .inl ⟨h1, h2⟩, rfl, by rw [List.length_map]; exact hl, fun i u v e f => by
    obtain rfl : u = v := Option.some.inj (e.symm.trans f)
    obtain ⟨n, _, rfl⟩ := ints_at e
    exact Alk.int⟩
theorem Alk.rows {H : Hp} {n : Nat} {B B' : Addr → Prop} {a b : Addr} {ts us : List Addr} {rs : List (List Int)} (h1 : RmsAt H B a ts rs) (h2 : RmsAt H B' b us rs) (hl : rs.length ≤ 100000) (hr : ∀ r ∈ rs, r.length ≤ 100000) : Alk H (n + 2) (.ref a) (.ref b) :=
  .inr ⟨a, b, _, _, rfl, rfl, .inl ⟨h1.top, h2.top⟩, by rw [List.length_map, List.length_map, h1.len, h2.len], by rw [List.length_map, h2.len]; exact hl, fun i u v e f => by
    obtain ⟨t, r, rfl, _, er, et⟩ := h1.get e
    obtain ⟨t', r', rfl, _, er', et'⟩ := h2.get f
    obtain rfl : r = r' := Option.some.inj (er.symm.trans er')
    exact Alk.ints et et' (hr r (List.mem_of_getElem? er))⟩
theorem Alk.two {H : Hp} {n : Nat} {a b : Addr} {x1 x2 y1 y2 : V} (h1 : H a = some (.lst [x1, x2])) (h2 : H b = some (.lst [y1, y2])) (k1 : Alk H n x1 y1) (k2 : Alk H n x2 y2) : Alk H (n + 1) (.ref a) (.ref b) :=
  .inr ⟨a, b, _, _, rfl, rfl, .inl ⟨h1, h2⟩, rfl, by show 2 ≤ 100000; decide, fun i u v e f => by
    match i, e, f with
    | 0, e, f =>
      obtain rfl := Option.some.inj e
      obtain rfl := Option.some.inj f
      exact k1
    | 1, e, f =>
      obtain rfl := Option.some.inj e
      obtain rfl := Option.some.inj f
      exact k2
    | i + 2, e, f => simp at e⟩
end El
namespace El
open PySem PySem.Spec PyProof.Rows L2 SX
theorem sm_of {i : Int} (h0 : 0 ≤ i) (h1 : i < 10 ^ 30) : Sm i := by
  have e30 : (10 : Int) ^ 30 = 1000000000000000000000000000000 := by decide
  have e31 : (10 : Nat) ^ 30 = 1000000000000000000000000000000 := by decide
  unfold Sm
  rw [e30] at h1
  rw [e31]
  omega
theorem Alk.sca {H : Hp} {n : Nat} {x : V} (h : Sca x = true) : Alk H n x x := by
  cases n with
  | zero => exact ⟨h, rfl⟩
  | succ n => exact .inl ⟨h, rfl⟩
theorem Alk.prs {H : Hp} {n : Nat} {B B' : Addr → Prop} {a b : Addr} {ts us : List Addr} {gs : List (Int × Int)} (h1 : GsAt H B a ts gs) (h2 : GsAt H B' b us gs) (hl : gs.length ≤ 100000) : Alk H (n + 2) (.ref a) (.ref b) :=
  .inr ⟨a, b, _, _, rfl, rfl, .inl ⟨h1.top, h2.top⟩, by rw [List.length_map, List.length_map, h1.len, h2.len], by rw [List.length_map, h2.len]; exact hl, fun i u v e f => by
    obtain ⟨t, r, rfl, er, et⟩ := h1.get e
    obtain ⟨t', r', rfl, er', et'⟩ := h2.get f
    obtain rfl : r = r' := Option.some.inj (er.symm.trans er')
    exact .inr ⟨t, t', _, _, rfl, rfl, .inr ⟨et, et'⟩, rfl, by show 2 ≤ 100000; decide, fun j u v e f => by
      obtain rfl : u = v := Option.some.inj (e.symm.trans f)
      rcases List.mem_cons.mp (List.mem_of_getElem? e) with rfl | m
      · exact Alk.int
      · rw [List.mem_singleton.mp m]
        exact Alk.int⟩⟩
theorem eqv_gs_nil {gs : List (Int × Int)} (h : gs ≠ []) : PyData.eqv (dGs gs) (dGs []) = false := by
  cases gs with
  | nil => exact absurd rfl h
  | cons g gs => rfl
/-- guests sorted: by age, the eldest first -/
theorem GsAt.sorted {H H' : Hp} {B : Addr → Prop} {a p : Addr} {ts : List Addr} {gs : List (Int × Int)} {zs : List V} (h : GsAt H B a ts gs) (k : Same H H') (pm : zs.Perm (ts.map V.ref)) (hz : zs.map (prOf H) = byAge gs) (e : H' p = some (.lst zs)) : ∃ us, GsAt H' (fun _ => True) p us (byAge gs) ∧ zs = us.map V.ref ∧ ∀ u ∈ us, u ∈ ts := by
  have : ∃ us : List Addr, zs = us.map V.ref ∧ ∀ u ∈ us, u ∈ ts := by
    have hm : ∀ z ∈ zs, ∃ t, z = V.ref t ∧ t ∈ ts := fun z m => by
      obtain ⟨t, mt, rfl⟩ := List.mem_map.mp (pm.mem_iff.mp m)
      exact ⟨t, rfl, mt⟩
    clear pm hz e
    induction zs with
    | nil => exact ⟨[], rfl, fun u m => by simp at m⟩
    | cons z zs ih =>
      obtain ⟨t, rfl, mt⟩ := hm z List.mem_cons_self
      obtain ⟨us, rfl, hu⟩ := ih fun y m => hm y (List.mem_cons_of_mem _ m)
      exact ⟨t :: us, rfl, fun u m => by
        rcases List.mem_cons.mp m with rfl | m
        · exact mt
        · exact hu u m⟩
  obtain ⟨us, rfl, hu⟩ := this
  refine ⟨us, ⟨e, trivial, ?_, fun i t g e1 e2 => ?_, fun _ _ => trivial⟩, rfl, hu⟩
  · have := congrArg List.length hz
    rw [List.length_map, List.length_map] at this
    exact this
  · have m := h.mem (.ref t) (pm.mem_iff.mp (List.mem_map.mpr ⟨t, List.mem_of_getElem? e1, rfl⟩))
    obtain ⟨t', et, e3⟩ := m
    injection et with et
    subst et
    have : prOf H (.ref t) = g := by
      have h2 := congrArg (fun l => l[i]?) hz
      rw [List.getElem?_map, List.getElem?_map, e1, e2] at h2
      exact Option.some.inj h2
    rw [this] at e3
    exact k _ _ e3
end El
namespace El
open PySem PySem.Spec PyProof.Rows L2 SX
def dStrs (ws : List Str) : PyData := .list (ws.map .str)
theorem Oks.strs (ws : List Str) (h : ∀ w ∈ ws, PyData.strOk w = true) : Oks 1 (dStrs ws) := .lst fun x m => by
  obtain ⟨n, mn, rfl⟩ := List.mem_map.mp m
  exact ⟨by rw [PyData.canLay0]; exact h n mn, by simp [PyData.depth]⟩
theorem strOk_S {l : List Nat} (h : ∀ x ∈ l, x < 256) : PyData.strOk (S l) = true := by
  show (l.toArray).all _ = true
  rw [← Array.all_toList, List.all_eq_true]
  intro x m
  have := h x m
  exact decide_eq_true (by omega)
theorem numI_low (i : Int) : ∀ x ∈ numI i, x < 256 := by
  intro x m
  unfold numI at m
  split at m
  · have := TL.numL_digits _ x m
    omega
  · rcases List.mem_cons.mp m with rfl | m
    · decide
    · have := TL.numL_digits _ x m
      omega
theorem twoW_low {c : Nat} (hc : c < 256) (g : Int × Int) : ∀ x ∈ twoW c g, x < 256 := by
  intro x m
  rw [twoW_is] at m
  rcases List.mem_append.mp m with m | m
  · exact numI_low _ x m
  · rcases List.mem_append.mp m with m | m
    · rw [List.mem_singleton.mp m]
      exact hc
    · exact numI_low _ x m
theorem Dp.strs {K : PySem.W.Frag} {H : Hp} {a : Addr} {ws : List Str} (h : H a = some (.lst (ws.map V.str))) : Dp K H (.ref a) (dStrs ws) := by
  refine .lst (SqL.of h) (dpAll_of (by rw [List.length_map, List.length_map]) fun i v d e f => ?_)
  rw [List.getElem?_map] at e f
  cases e2 : ws[i]? with
  | none => rw [e2] at e; cases e
  | some x =>
    rw [e2] at e f
    rw [← Option.some.inj e, ← Option.some.inj f]
    exact .str x
theorem eqv_strs_nil (ws : List Str) : PyData.eqv (dStrs ws) (dStrs []) = ws.isEmpty := by
  cases ws with
  | nil => rfl
  | cons x r => rfl
end El
namespace El
open PySem PySem.Spec PyProof.Rows L2 SX
/-! ### rooms as texts -/
def roomW (r : List Int) : List Nat := TL.joinL [44] (r.map numI)
def barL : List Nat := [32, 124, 32]
def roomsT (rs : List (List Int)) : List Nat := if rs = [] then noneL else TL.joinL barL (rs.map roomW)
structure Rml (rs : List (List Int)) : Prop where
  sm : ∀ r ∈ rs, ∀ i ∈ r, Sm i
  ne : ∀ r ∈ rs, r ≠ []
  few : rs.flatten.length ≤ 1000
theorem len_flat : ∀ {rs : List (List Int)}, (∀ r ∈ rs, r ≠ []) → rs.length ≤ rs.flatten.length
  | [], _ => Nat.zero_le _
  | r :: rs, h => by
    have h1 := List.length_pos_iff.mpr (h r List.mem_cons_self)
    have h2 := len_flat fun q m => h q (List.mem_cons_of_mem _ m)
    rw [List.flatten_cons, List.length_append, List.length_cons]
    omega
theorem room_few : ∀ {rs : List (List Int)} {r : List Int}, r ∈ rs → r.length ≤ rs.flatten.length
  | q :: rs, r, m => by
    rw [List.flatten_cons, List.length_append]
    rcases List.mem_cons.mp m with rfl | m
    · omega
    · have := room_few m
      omega
theorem Rml.rooms {rs : List (List Int)} (h : Rml rs) : rs.length ≤ 1000 := Nat.le_trans (len_flat h.ne) h.few
theorem Rml.room {rs : List (List Int)} (h : Rml rs) {r : List Int} (m : r ∈ rs) : r.length ≤ 1000 := Nat.le_trans (room_few m) h.few
theorem joinL_sum (sep : List Nat) : ∀ l : List (List Nat), (TL.joinL sep l).length ≤ (l.map (·.length)).sum + l.length * sep.length
  | [] => Nat.zero_le _
  | [w] => by
    show w.length ≤ (w.length + 0) + 1 * sep.length
    omega
  | w :: v :: r => by
    have h2 := joinL_sum sep (v :: r)
    show (w ++ (sep ++ TL.joinL sep (v :: r))).length ≤ _
    rw [List.length_append, List.length_append, List.map_cons, List.sum_cons, List.length_cons, Nat.add_mul, Nat.one_mul]
    omega
theorem roomW_len {r : List Int} (h : ∀ i ∈ r, Sm i) : (roomW r).length ≤ r.length * 32 := by
  refine Nat.le_trans (joinL_len [44] 31 _ fun w m => ?_) ?_
  · obtain ⟨i, mi, rfl⟩ := List.mem_map.mp m
    exact numI_len (h i mi)
  · rw [List.length_map]
    exact Nat.le_refl _
theorem rooms_sum : ∀ {rs : List (List Int)}, (∀ r ∈ rs, ∀ i ∈ r, Sm i) → ((rs.map roomW).map (·.length)).sum ≤ rs.flatten.length * 32
  | [], _ => Nat.le_refl _
  | r :: rs, h => by
    have h1 := roomW_len (h r List.mem_cons_self)
    have h2 := rooms_sum fun q m => h q (List.mem_cons_of_mem _ m)
    rw [List.map_cons, List.map_cons, List.sum_cons, List.flatten_cons, List.length_append, Nat.add_mul]
    omega
theorem rooms_len {rs : List (List Int)} (h : Rml rs) : (TL.joinL barL (rs.map roomW)).length ≤ 35000 := by
  have h1 := joinL_sum barL (rs.map roomW)
  have h2 := rooms_sum h.sm
  have h3 := h.rooms
  have h4 := h.few
  rw [List.length_map] at h1
  have : barL.length = 3 := rfl
  rw [this] at h1
  omega
theorem roomsT_len {rs : List (List Int)} (h : Rml rs) : (roomsT rs).length ≤ 35000 := by
  unfold roomsT
  split
  · show 4 ≤ _
    omega
  · exact rooms_len h
theorem joinL_low (sep : List Nat) {b : Nat} (hs : ∀ x ∈ sep, x < b) : ∀ l : List (List Nat), (∀ w ∈ l, ∀ x ∈ w, x < b) → ∀ x ∈ TL.joinL sep l, x < b
  | [], _ => fun x m => by simp [TL.joinL] at m
  | [w], h => h w List.mem_cons_self
  | w :: v :: r, h => fun x m => by
    have m' : x ∈ w ++ (sep ++ TL.joinL sep (v :: r)) := m
    rcases List.mem_append.mp m' with m | m
    · exact h w List.mem_cons_self x m
    · rcases List.mem_append.mp m with m | m
      · exact hs x m
      · exact joinL_low sep hs (v :: r) (fun u mu => h u (List.mem_cons_of_mem _ mu)) x m
theorem roomW_low (r : List Int) : ∀ x ∈ roomW r, x < 256 := joinL_low [44] (fun x m => by rw [List.mem_singleton.mp m]; decide) _ fun w m => by
  obtain ⟨i, _, rfl⟩ := List.mem_map.mp m
  exact numI_low i
theorem joinL_free {c : Nat} (sep : List Nat) (hs : c ∉ sep) : ∀ l : List (List Nat), (∀ w ∈ l, c ∉ w) → c ∉ TL.joinL sep l
  | [], _ => fun m => by simp [TL.joinL] at m
  | [w], h => h w List.mem_cons_self
  | w :: v :: r, h => fun m => by
    have m' : c ∈ w ++ (sep ++ TL.joinL sep (v :: r)) := m
    rcases List.mem_append.mp m' with m | m
    · exact h w List.mem_cons_self m
    · rcases List.mem_append.mp m with m | m
      · exact hs m
      · exact joinL_free sep hs (v :: r) (fun u mu => h u (List.mem_cons_of_mem _ mu)) m
theorem roomW_free (r : List Int) : 32 ∉ roomW r := joinL_free [44] (by decide) _ fun w m => by
  obtain ⟨i, _, rfl⟩ := List.mem_map.mp m
  exact numI_free i (by decide) (by decide)
theorem bar_S : (" | " : Str) = S barL := one_S.2.2.2.2.2
theorem split_rooms {rs : List (List Int)} (h : rs ≠ []) : Txt.split (S (roomsT rs)) (S barL) = (rs.map roomW).map S := by
  unfold roomsT
  rw [if_neg h, split_S (by decide) (by decide)]
  rw [show TL.spl barL 0 [] (TL.joinL barL (rs.map roomW)) = rs.map roomW from spl_join (by simpa using h) fun w m => by
    obtain ⟨r, _, rfl⟩ := List.mem_map.mp m
    exact roomW_free r]
theorem roomW_first {r : List Int} (h : r ≠ []) : ∃ d t, roomW r = d :: t ∧ (d = 45 ∨ (48 ≤ d ∧ d ≤ 57)) := by
  cases r with
  | nil => exact absurd rfl h
  | cons i r =>
    have h1 : ∃ d t, numI i = d :: t ∧ (d = 45 ∨ (48 ≤ d ∧ d ≤ 57)) := by
      unfold numI
      split
      · cases e2 : TL.numL i.toNat with
        | nil => exact absurd e2 (TL.numL_ne _)
        | cons d t => exact ⟨d, t, rfl, .inr (TL.numL_digits i.toNat d (by rw [e2]; exact List.mem_cons_self))⟩
      · exact ⟨45, _, rfl, .inl rfl⟩
    obtain ⟨d, t, e2, hd⟩ := h1
    unfold roomW
    rw [List.map_cons, e2]
    cases r with
    | nil => exact ⟨d, t, rfl, hd⟩
    | cons j r => exact ⟨d, _, rfl, hd⟩
theorem rooms_first {rs : List (List Int)} (hn : rs ≠ []) (h : ∀ r ∈ rs, r ≠ []) : ∃ d t, TL.joinL barL (rs.map roomW) = d :: t ∧ (d = 45 ∨ (48 ≤ d ∧ d ≤ 57)) := by
  cases rs with
  | nil => exact absurd rfl hn
  | cons r rs =>
    obtain ⟨d, t, e, hd⟩ := roomW_first (h r List.mem_cons_self)
    rw [List.map_cons, e]
    cases rs with
    | nil => exact ⟨d, t, rfl, hd⟩
    | cons q rs => exact ⟨d, _, rfl, hd⟩
theorem rooms_none {rs : List (List Int)} (hn : rs ≠ []) (h : ∀ r ∈ rs, r ≠ []) : roomsT rs ≠ noneL := by
  unfold roomsT
  rw [if_neg hn]
  obtain ⟨d, t, e, hd⟩ := rooms_first hn h
  rw [e]
  intro z
  have := (List.cons.inj z).1
  omega
/-! ### rules -/
section
variable {X : Cx}
theorem mtJoinK (K : PySem.W.Frag) (e : X.K = K := by rfl) : MtR X "str.join" (fun x xs H Q => ∃ a p, ∃ ys : List Str, x = .str a ∧ xs = [.ref p] ∧ (SqL K H p (ys.map V.str) ∨ SqT K H p (ys.map V.str)) ∧
    (ys.map (·.length)).sum + ys.length * a.length ≤ 16777216 ∧ Q (.str (Txt.join a ys)) H) := by
  subst e
  exact mt_join
end
/-- a list of texts, one for each number -/
theorem lc_sints {K : PySem.W.Frag} {a D : Addr} {L : List Int} {i : Nat} {te : TE} {vs : List Nat} {σ : L2.St} {H1 : Hp} {Qd : Hp → Prop} (hL : SqL K H1 a (L.map V.int)) (hD : H1 D = none) (hl : L.length ≤ 1000)
    (he : ∀ (z : Int) (H' : Hp), z ∈ L → ∀ Q : VK, Q (.str (S (numI z))) H' → te ((wipe σ vs).set i (some (.int z))) H' Q) (hw : ∀ z : Int, wipe ((wipe σ vs).set i (some (.int z))) vs = wipe σ vs)
    (hd : ∀ H2, Same H1 H2 → H2 D = some (.lst ((L.map fun z => S (numI z)).map V.str)) → Qd H2) :
    ∃ W : Nat → Nat → Hp → Prop, (∃ m, W 0 m (upd H1 D (.lst []))) ∧ ∀ k m H, W k m H →
      ((Itl K a).stop k H ∧ Qd H) ∨ ((Itl K a).go k H ∧ ∃ Nx : Hp → Prop, (∀ H', Nx H' → ∃ m', m' < m ∧ W (k + 1) m' H') ∧ ∀ x H', (Itl K a).yld k H x H' → gName i x (wipe σ vs) H' fun σ2 H2 => wipe σ2 vs = wipe σ vs ∧ tYes σ2 H2 fun b H3 =>
        if b = true then te σ2 H3 fun y H4 => ∃ acc, H4 D = some (.lst acc) ∧ acc.length < sizeLine ∧ Nx (upd H4 D (.lst (acc ++ [y]))) else Nx H3) := by
  refine lc_it (walk_list (xs := L.map V.int)) (fun k H2 => Same H1 H2 ∧ H2 D = some (.lst (((L.take k).map fun z => S (numI z)).map V.str))) ⟨same_new hD, upd_same⟩ (fun k H2 _ hW => hW.1.seq hL) (fun k x H2 H3 hk hW hY => ?_) (fun H2 hW => ?_)
  · obtain ⟨sm, e⟩ := hW
    obtain ⟨rfl, hx⟩ := hY
    obtain ⟨z, ez, rfl⟩ := ints_at hx
    refine ⟨hw z, he z H3 (List.mem_of_getElem? ez) _ ⟨_, e, ils (by rw [List.length_map, List.length_map, List.length_take]; omega), Same.mut sm hD, ?_⟩⟩
    rw [upd_same, take_snoc ez, List.map_append, List.map_append]
    rfl
  · obtain ⟨sm, e⟩ := hW
    rw [List.length_map, take_full] at e
    exact hd H2 sm e
theorem join_nums (r : List Int) : Txt.join "," (r.map fun z => S (numI z)) = S (roomW r) := by
  rw [one_S.2.2.2.1]
  unfold roomW
  rw [← join_S, List.map_map]
  rfl
theorem join_rooms (rs : List (List Int)) : Txt.join " | " (rs.map fun r => S (roomW r)) = S (TL.joinL barL (rs.map roomW)) := by
  rw [bar_S, ← join_S, List.map_map]
  rfl
theorem nums_sum {r : List Int} (h : ∀ i ∈ r, Sm i) (hl : r.length ≤ 1000) : ((r.map fun z => S (numI z)).map (·.length)).sum + (r.map fun z => S (numI z)).length * (Str.ofString ",").length ≤ 16777216 := by
  have := sum_lens (l := r.map fun z => S (numI z)) (k := 31) fun w m => by
    obtain ⟨i, mi, rfl⟩ := List.mem_map.mp m
    rw [S_len]
    exact numI_len (h i mi)
  rw [List.length_map] at this ⊢
  have l1 : (Str.ofString ",").length = 1 := rfl
  rw [l1]
  omega
theorem rooms_sum' {rs : List (List Int)} (h : Rml rs) : ((rs.map fun r => S (roomW r)).map (·.length)).sum + (rs.map fun r => S (roomW r)).length * (Str.ofString " | ").length ≤ 16777216 := by
  have h1 := rooms_sum h.sm
  have e : (rs.map fun r => S (roomW r)).map (·.length) = (rs.map roomW).map (·.length) := by
    rw [List.map_map, List.map_map]
    exact List.map_congr_left fun r _ => S_len _
  have l3 : (Str.ofString " | ").length = 3 := rfl
  rw [e, l3, List.length_map]
  have := h.rooms
  have := h.few
  omega
end El
namespace El
open PySem PySem.Spec PyProof.Rows L2 SX
section
variable {P : Program} {w : World} {K : PySem.W.Frag} {mg : Str → Option Value} {base : Heap}
abbrev s_show_rooms : Stmt := topS 1
abbrev N_show_rooms : List Str := ["rooms", "room", "age"]
abbrev P_show_rooms : List Str := ["rooms"]
theorem sc_show_rooms : FnScope N_show_rooms P_show_rooms (defScope s_show_rooms) := ⟨rfl, rfl, rfl, by decide +kernel, rfl, by decide +kernel, by decide +kernel⟩
abbrev scI_show_rooms : Scope := match defBody s_show_rooms with
  | [.Return (some (.BoolOp _ (.Call _ (.ListComp _ _ sc _ :: _) _ _ :: _) _)) _] => sc
  | _ => defScope s_show_rooms
def sp_show_rooms : Sp := fun vs H Q _ => ∃ (BB : Addr → Prop) (a : Addr) (ts : List Addr) (rs : List (List Int)), vs = [.ref a] ∧ RmsAt H BB a ts rs ∧ Rml rs ∧ ∀ H', Same H H' → Q (.str (S (roomsT rs))) H'
theorem ok_show_rooms (A : At K mg "show_rooms" P_show_rooms s_show_rooms) (B : Bi mg) : Df P w K mg base 1 "show_rooms" P_show_rooms s_show_rooms sp_show_rooms := by
  refine A.df fun f fd F => F.ok sc_show_rooms (fun vs H Q E h => ?_) (fun cdv AA outer s H vs Q E hr h => ?_)
  · obtain ⟨_, _, _, _, rfl, _⟩ := h
    rfl
  · obtain ⟨BB, a, ts, rs, rfl, hR, hm, q⟩ := h
    have nd := sc_show_rooms.nd
    refine ⟨_, (pss_one (ps_ret (pe_orT (pe_bm PySem.F.plainAttrs_str PySem.F.slot_str_join PySem.F.type_str_join mt_join pe_str (pa_cons (pe_lc (own := [("room", 1)]) (tt := tYes) rfl nd (pi_list (pv 0)) (blkOk_by (N := N_show_rooms) (sc := defScope s_show_rooms) (by decide +kernel)) (fun _ _ _ _ _ => (pg_name (i := 1) nd rfl (.inl rfl))) (fun _ _ _ _ _ => pts_nil) (fun _ _ _ _ _ => (bmK K PySem.F.plainAttrs_str PySem.F.slot_str_join PySem.F.type_str_join (mtJoinK K) pe_str (pa_cons (pe_lc (own := [("age", 2)]) (tt := tYes) rfl nd (piListK K (pv 1)) (blkOk_by (N := N_show_rooms) (sc := scI_show_rooms) (by decide +kernel)) (fun _ _ _ _ _ => (pg_name (i := 2) nd rfl (.inl rfl))) (fun _ _ _ _ _ => pts_nil) (fun _ _ _ _ _ => (pe_callTy call_str_int (by rfl) B.str_ (by decide +kernel) (pa_cons (pv 2) pa_nil)))) pa_nil)))) pa_nil)) (pe_one pe_str)))), ?_⟩
    have hl := hm.rooms
    refine ⟨rfl, .ref a, rfl, a, rfl, ⟨_, hR.seq⟩, fun D nD => ?_⟩
    refine lc_it (walk_list (xs := ts.map V.ref)) (fun k H2 => Same H H2 ∧ H2 D = some (.lst (((rs.take k).map fun r => S (roomW r)).map V.str))) ⟨same_new nD, upd_same⟩ (fun k H2 _ hW => ?_) (fun k x H2 H3 hk hW hY => ?_) (fun H2 hW => ?_)
    · exact (hR.same hW.1).seq
    · obtain ⟨sm, e⟩ := hW
      obtain ⟨rfl, hx⟩ := hY
      obtain ⟨t, r, rfl, _, er, et⟩ := (hR.same sm).get hx
      have mr := List.mem_of_getElem? er
      refine ⟨rfl, rfl, .ref t, rfl, t, rfl, ⟨_, SqL.of et⟩, fun D2 nD2 => ?_⟩
      refine lc_sints (SqL.of et) nD2 (hm.room mr) (fun z H' mz Q h => ⟨.int z, rfl, z, rfl, (hm.sm r mr z mz).log, by rw [← text_S] at h; exact h⟩) (fun _ => rfl) (fun H4 s4 e4 => ?_)
      refine ⟨",", D2, r.map (fun z => S (numI z)), rfl, rfl, .inl (SqL.of e4), nums_sum (hm.sm r mr) (hm.room mr), ?_⟩
      rw [join_nums]
      have e' := s4 _ _ e
      refine ⟨_, e', ils (by rw [List.length_map, List.length_map, List.length_take]; omega), Same.mut (sm.trans s4) nD, ?_⟩
      rw [upd_same, take_snoc er, List.map_append, List.map_append]
      rfl
    · obtain ⟨sm, e⟩ := hW
      rw [List.length_map, hR.len, take_full] at e
      refine ⟨" | ", D, rs.map (fun r => S (roomW r)), rfl, rfl, .inl (SqL.of e), rooms_sum' hm, ?_⟩
      rw [join_rooms]
      have hlen := rooms_len hm
      refine ⟨_, ⟨by rw [S_len]; exact ile (by omega), rfl⟩, ?_⟩
      rw [S_len]
      have q' := q H2 sm
      unfold roomsT at q'
      by_cases hn : rs = []
      · subst hn
        refine iteX (by rfl) ?_
        rw [if_pos rfl, ← none_S] at q'
        exact q'
      · obtain ⟨d, t, e2, _⟩ := rooms_first hn hm.ne
        rw [if_neg hn] at q'
        refine iteTx (by rw [e2]; rfl) ?_
        exact q'
end
end El
namespace El
open PySem PySem.Spec PyProof.Rows L2 SX
section
variable {P : Program} {w : World} {K : PySem.W.Frag} {mg : Str → Option Value} {base : Heap}
abbrev s_is_number : Stmt := topS 13
abbrev N_is_number : List Str := ["word", "figures"]
abbrev P_is_number : List Str := ["word"]
theorem sc_is_number : FnScope N_is_number P_is_number (defScope s_is_number) := ⟨rfl, rfl, rfl, by decide +kernel, rfl, by decide +kernel, by decide +kernel⟩
def sp_is_number : Sp := fun vs H Q _ => ∃ l : List Nat, vs = [.str (S l)] ∧ l.length ≤ 100000 ∧ (∀ i, Sm i → l = numI i → Q (.bl true) H) ∧ ((∀ i, Sm i → l ≠ numI i) → Q (.bl false) H)
theorem ok_is_number {tMF : Tok} (A : At K mg "is_number" P_is_number s_is_number) (B : Bi mg) (G_MOST_FIGURES : mg "MOST_FIGURES" = some (.int 30 tMF)) : Df P w K mg base 1 "is_number" P_is_number s_is_number sp_is_number := by
  refine A.df fun f fd F => F.ok sc_is_number (fun vs H Q E h => ?_) (fun cdv AA outer s H vs Q E hr h => ?_)
  · obtain ⟨_, rfl, _⟩ := h
    rfl
  · obtain ⟨l, rfl, hl, qt, qf⟩ := h
    have nd := sc_is_number.nd
    refine ⟨_, (pss_cons (ps_set (i := 1) nd rfl (.inl rfl) (pe_bm PySem.F.plainAttrs_str PySem.F.slot_str_removeprefix PySem.F.type_str_removeprefix mt_removeprefix (pv 0) (pa_cons pe_str pa_nil)))
    (pss_cons (ps_if (PW.pt (pw_or (pt_cmpR op_gt (pe_callB call_len_str (by rfl) B.len PySem.boot_len (pa_cons (pv 1) pa_nil)) (pe_glob (v := .int 30) rfl G_MOST_FIGURES ⟨_, rfl⟩) (nomark _)) (pw_or1 (pt_not (PW.pt (pw_and (pt_val (pe_bm0 PySem.F.plainAttrs_str PySem.F.slot_str_isascii PySem.F.type_str_isascii mt_isascii (pv 1))) (pw_and1 (pt_val (pe_bm0 PySem.F.plainAttrs_str PySem.F.slot_str_isdigit PySem.F.type_str_isdigit mt_isdigit (pv 1)))))))))) (pss_one (ps_ret pe_bl)) pss_nil)
    (pss_one (ps_ret (pe_cmpR op_eq (pe_callTy call_str_int (by rfl) B.str_ (by decide +kernel) (pa_cons (pe_callTy call_int_str (by rfl) B.int_ (by decide +kernel) (pa_cons (pv 0) pa_nil)) pa_nil)) (pv 0) (nomark _)))))), ?_⟩
    refine ⟨.str (S l), rfl, rfl, S l, _, rfl, rfl, ile (by rw [S_len]; exact hl), ?_⟩
    rw [one_S.2.2.2.2.1, prefix_off]
    have huns : (unsign l).length ≤ l.length := by
      cases l with
      | nil => exact Nat.le_refl _
      | cons c r =>
        show (if c = 45 then r else c :: r).length ≤ _
        split
        · exact Nat.le_succ _
        · exact Nat.le_refl _
    -- the figures too many
    refine ⟨.str (S (unsign l)), rfl, S (unsign l), rfl, ?_, ?_⟩
    · rw [S_len]
      exact ile (by omega)
    · rw [S_len]
      refine ⟨_, _, rfl, rfl, _, rfl, ?_⟩
      by_cases hb : (30 : Int) < ((unsign l).length : Nat)
      · refine iteTx (by rw [decide_eq_true hb]) ?_
        refine iteTx rfl ?_
        exact qf fun i hi e => by
          have := len_sm hi
          rw [← e] at this
          omega
      · rw [decide_eq_false hb]
        refine iteX rfl ?_
        have hb' : (unsign l).length ≤ 30 := by omega
        have hw := digits_word (l := unsign l)
        have bad : (!(unsign l).isEmpty && (unsign l).all (fun c => decide (48 ≤ c) && decide (c ≤ 57))) = false → Q (.bl false) H := fun z => qf fun i hi e => by
          rw [e, num_word] at z
          exact Bool.noConfusion z
        refine ⟨.str (S (unsign l)), rfl, rfl, S (unsign l), rfl, rfl, trivial, _, rfl, ?_⟩
        cases ha : Txt.isascii (S (unsign l)) with
        | false =>
          refine iteX rfl ?_
          refine iteTx rfl ?_
          rw [ha] at hw
          exact bad hw.symm
        | true =>
          refine iteTx rfl ?_
          refine ⟨.str (S (unsign l)), rfl, rfl, S (unsign l), rfl, rfl, trivial, _, rfl, ?_⟩
          cases hd : Txt.isdigit (S (unsign l)) with
          | false =>
            refine iteTx rfl ?_
            rw [ha, hd] at hw
            exact bad hw.symm
          | true =>
            refine iteX rfl ?_
            rw [ha, hd] at hw
            obtain ⟨n, hr2, hn⟩ := word_reads hw.symm hb'
            have hl31 : l.length ≤ 31 := by
              cases l with
              | nil => exact Nat.zero_le _
              | cons c r =>
                have : unsign (c :: r) = if c = 45 then r else c :: r := rfl
                rw [this] at hb'
                split at hb'
                · rw [List.length_cons]
                  omega
                · omega
            refine ⟨.str (S l), rfl, S l, n, rfl, hr2, by rw [S_len]; omega, n, rfl, hn.log, .str (S l), rfl, rfl, ?_⟩
            by_cases e : numI n = l
            · rw [text_S, e, decide_eq_true rfl]
              exact qt n hn e.symm
            · rw [decide_eq_false (fun z => by
                rw [text_S] at z
                injection z with z
                exact e (S_inj z))]
              refine qf fun i hi e2 => ?_
              rw [e2, numI_reads hi] at hr2
              injection hr2 with hr2
              rw [hr2] at e2
              exact e e2.symm
end
end El
namespace El
open PySem PySem.Spec PyProof.Rows L2 SX
section
variable {P : Program} {w : World} {K : PySem.W.Frag} {mg : Str → Option Value} {base : Heap}
abbrev s_read_numbers : Stmt := topS 12
abbrev N_read_numbers : List Str := ["text", "part", "sign", "words", "word"]
abbrev P_read_numbers : List Str := ["text", "part", "sign"]
theorem sc_read_numbers : FnScope N_read_numbers P_read_numbers (defScope s_read_numbers) := ⟨rfl, rfl, rfl, by decide +kernel, rfl, by decide +kernel, by decide +kernel⟩
def Sign (c : Nat) : Prop := c < 256 ∧ c ≠ 45 ∧ c ≠ 32 ∧ (c < 48 ∨ 57 < c)
def sp_read_numbers : Sp := fun vs H Q _ => ∃ (tx : V) (c : Nat) (ls : List Int), vs = [tx, .str (S (TL.joinL [c] (ls.map numI))), .str (S [c])] ∧ Sign c ∧ (∀ i ∈ ls, Sm i) ∧ ls ≠ [] ∧ ls.length ≤ 3000 ∧ ∀ H' u, Same H H' → H u = none → H' u = some (.lst (ls.map V.int)) → Q (.ref u) H'
theorem ok_read_numbers (A : At K mg "read_numbers" P_read_numbers s_read_numbers) (B : Bi mg) (D_is_number : Df P w K mg base 1 "is_number" P_is_number s_is_number sp_is_number) : Df P w K mg base 2 "read_numbers" P_read_numbers s_read_numbers sp_read_numbers := by
  refine A.df fun f fd F => F.ok sc_read_numbers (fun vs H Q E h => ?_) (fun cdv AA outer s H vs Q E hr h => ?_)
  · obtain ⟨_, _, _, rfl, _⟩ := h
    rfl
  · obtain ⟨tx, c, ls, rfl, hc, hs, hn, hl, q⟩ := h
    have nd := sc_read_numbers.nd
    refine ⟨_, (pss_cons (ps_set (i := 3) nd rfl (.inl rfl) (pe_bm PySem.F.plainAttrs_str PySem.F.slot_str_split PySem.F.type_str_split mt_split (pv 1) (pa_cons (pv 2) pa_nil)))
    (pss_cons (ps_if (pt_not (pt_val (pe_callB (cr_all rfl) (by rfl) B.all (by decide +kernel) (pa_cons (pe_lc (own := [("word", 4)]) (tt := tYes) rfl nd (pi_list (pv 3)) (blkOk_by (N := N_read_numbers) (sc := defScope s_read_numbers) (by decide +kernel)) (fun _ _ _ _ _ => (pg_name (i := 4) nd rfl (.inl rfl))) (fun _ _ _ _ _ => pts_nil) (fun _ _ _ _ _ => (pe_df D_is_number (hr.mono (by decide)) (by rfl) (pa_cons (pv 4) pa_nil)))) pa_nil)))) (pss_one ps_never) pss_nil)
    (pss_one (ps_ret (pe_lc (own := [("word", 4)]) (tt := tYes) rfl nd (pi_list (pv 3)) (blkOk_by (N := N_read_numbers) (sc := defScope s_read_numbers) (by decide +kernel)) (fun _ _ _ _ _ => (pg_name (i := 4) nd rfl (.inl rfl))) (fun _ _ _ _ _ => pts_nil) (fun _ _ _ _ _ => (pe_callTy call_int_str (by rfl) B.int_ (by decide +kernel) (pa_cons (pv 4) pa_nil)))))))), ?_⟩
    have hlen : (TL.joinL [c] (ls.map numI)).length ≤ 96000 := by
      refine Nat.le_trans (joinL_len [c] 31 _ fun w m => ?_) (by rw [List.length_map]; show ls.length * 32 ≤ _; omega)
      obtain ⟨i, mi, rfl⟩ := List.mem_map.mp m
      exact numI_len (hs i mi)
    refine ⟨.str (S (TL.joinL [c] (ls.map numI))), rfl, rfl, .str (S [c]), rfl, S (TL.joinL [c] (ls.map numI)), S [c], rfl, rfl, rfl, by rw [S_len]; exact ils (by omega), ?_⟩
    rw [split_S (by simp) (by simpa using hc.1), spl_join (by simpa using hn) fun w m => by
      obtain ⟨i, mi, rfl⟩ := List.mem_map.mp m
      exact numI_free i hc.2.1 hc.2.2.2]
    intro W nW
    have sW : Same H (upd H W (.lst (((ls.map numI).map S).map V.str))) := same_new nW
    have eW : (upd H W (.lst (((ls.map numI).map S).map V.str))) W = some (.lst (((ls.map numI).map S).map V.str)) := upd_same
    generalize upd H W (.lst (((ls.map numI).map S).map V.str)) = H1 at sW eW ⊢
    refine ⟨_, rfl, ?_⟩
    have hlenW : (((ls.map numI).map S).map V.str).length = ls.length := by rw [List.length_map, List.length_map, List.length_map]
    have gW : ∀ k x, (((ls.map numI).map S).map V.str)[k]? = some x → ∃ i, ls[k]? = some i ∧ x = V.str (S (numI i)) := fun k x h => by
      rw [List.getElem?_map, List.getElem?_map, List.getElem?_map] at h
      cases e : ls[k]? with
      | none => rw [e] at h; cases h
      | some i => rw [e] at h; exact ⟨i, e, (Option.some.inj h).symm⟩
    refine ⟨W, rfl, ⟨_, SqL.of eW⟩, fun D nD => ?_⟩
    refine lc_it (walk_list (xs := ((ls.map numI).map S).map V.str)) (fun k H2 => Same H1 H2 ∧ H2 D = some (.lst ((List.replicate k true).map V.bl))) ⟨same_new nD, upd_same⟩ (fun k H2 _ hW => SqL.of (hW.1 _ _ eW)) (fun k x H2 H3 hk hW hY => ?_) (fun H2 hW => ?_)
    · obtain ⟨sm, e⟩ := hW
      obtain ⟨rfl, hx⟩ := hY
      obtain ⟨i, ei, rfl⟩ := gW k x hx
      have hi := hs i (List.mem_of_getElem? ei)
      refine ⟨rfl, .str (S (numI i)), rfl, numI i, rfl, Nat.le_trans (numI_len hi) (by decide), fun j _ ej => ?_, fun z => absurd rfl (z i hi)⟩
      refine ⟨_, e, ils (by rw [List.length_map, List.length_replicate]; omega), Same.mut sm nD, ?_⟩
      rw [upd_same, List.replicate_succ', List.map_append]
      rfl
    · obtain ⟨sm, e⟩ := hW
      refine ⟨_, _, rfl, SqL.of e, _, rfl, ?_⟩
      have ha : ((List.replicate (((ls.map numI).map S).map V.str).length true).all id) = true := by
        rw [List.all_eq_true]
        intro b m
        exact (List.mem_replicate.mp m).2
      rw [ha]
      refine iteX rfl ?_
      refine ⟨.ref W, rfl, W, rfl, ⟨_, SqL.of (sm _ _ eW)⟩, fun D2 nD2 => ?_⟩
      have sW2 := sm _ _ eW
      refine lc_it (walk_list (xs := ((ls.map numI).map S).map V.str)) (fun k H3 => Same H2 H3 ∧ H3 D2 = some (.lst ((ls.take k).map V.int))) ⟨same_new nD2, upd_same⟩ (fun k H3 _ hW => SqL.of (hW.1 _ _ sW2)) (fun k x H3 H4 hk hW hY => ?_) (fun H3 hW => ?_)
      · obtain ⟨sm3, e3⟩ := hW
        obtain ⟨rfl, hx⟩ := hY
        obtain ⟨i, ei, rfl⟩ := gW k x hx
        have hi := hs i (List.mem_of_getElem? ei)
        have hl1 := numI_len hi
        refine ⟨rfl, .str (S (numI i)), rfl, S (numI i), i, rfl, numI_reads hi, by rw [S_len]; omega, ?_⟩
        refine ⟨_, e3, ils (by rw [List.length_map, List.length_take]; omega), Same.mut sm3 nD2, ?_⟩
        rw [upd_same, take_snoc ei, List.map_append]
        rfl
      · obtain ⟨sm3, e3⟩ := hW
        rw [hlenW, List.take_length] at e3
        refine q H3 D2 ((sW.trans sm).trans sm3) ?_ e3
        cases e2 : H D2 with
        | none => rfl
        | some o => exact absurd ((sW.trans sm) _ _ e2) (by rw [nD2]; simp)
end
end El
namespace El
open PySem PySem.Spec PyProof.Rows L2 SX
section
variable {P : Program} {w : World} {K : PySem.W.Frag} {mg : Str → Option Value} {base : Heap}
abbrev s_parts_of : Stmt := topS 11
abbrev N_parts_of : List Str := ["text", "between"]
abbrev P_parts_of : List Str := ["text", "between"]
theorem sc_parts_of : FnScope N_parts_of P_parts_of (defScope s_parts_of) := ⟨rfl, rfl, rfl, by decide +kernel, rfl, by decide +kernel, by decide +kernel⟩
def sp_parts_of : Sp := fun vs H Q _ => ∃ (l sep : List Nat) (ps : List (List Nat)), vs = [.str (S l), .str (S sep)] ∧ sep ≠ [] ∧ l.length ≤ 90000 ∧ ((l = noneL ∧ ps = []) ∨ (l ≠ noneL ∧ Txt.split (S l) (S sep) = ps.map S)) ∧ ∀ D, H D = none → Q (.ref D) (upd H D (.lst ((ps.map S).map V.str)))
theorem ok_parts_of (A : At K mg "parts_of" P_parts_of s_parts_of) (B : Bi mg) : Df P w K mg base 1 "parts_of" P_parts_of s_parts_of sp_parts_of := by
  refine A.df fun f fd F => F.ok sc_parts_of (fun vs H Q E h => ?_) (fun cdv AA outer s H vs Q E hr h => ?_)
  · obtain ⟨_, _, _, rfl, _⟩ := h
    rfl
  · obtain ⟨l, sep, ps, rfl, hsep, hl, hc, q⟩ := h
    have nd := sc_parts_of.nd
    refine ⟨_, (pss_cons (ps_if (pt_cmpR op_eq (pv 0) pe_str (nomark _)) (pss_one (ps_ret (pe_lst pa_nil))) pss_nil)
    (pss_one (ps_ret (pe_bm PySem.F.plainAttrs_str PySem.F.slot_str_split PySem.F.type_str_split mt_split (pv 0) (pa_cons (pv 1) pa_nil))))), ?_⟩
    refine ⟨.str (S l), rfl, rfl, ?_⟩
    rcases hc with ⟨rfl, rfl⟩ | ⟨hn, hs⟩
    · rw [none_S.symm, decide_eq_true rfl]
      refine ⟨_, rfl, iteTx rfl ?_⟩
      exact ⟨by decide, fun D nD => q D nD⟩
    · rw [decide_eq_false (fun z => by
        injection z with z
        exact hn (S_inj (z.trans none_S)))]
      refine ⟨_, rfl, iteX rfl ?_⟩
      refine ⟨.str (S l), rfl, rfl, .str (S sep), rfl, S l, S sep, rfl, rfl, ?_, by rw [S_len]; exact ils (by omega), ?_⟩
      · rw [S_len]
        cases sep with
        | nil => exact absurd rfl hsep
        | cons c r => rfl
      · rw [hs]
        exact q
end
end El
namespace El
open PySem PySem.Spec PyProof.Rows L2 SX
section
variable {P : Program} {w : World} {K : PySem.W.Frag} {mg : Str → Option Value} {base : Heap}
abbrev s_falls : Stmt := topS 14
abbrev N_falls : List Str := ["ages", "elder", "younger"]
abbrev P_falls : List Str := ["ages"]
theorem sc_falls : FnScope N_falls P_falls (defScope s_falls) := ⟨rfl, rfl, rfl, by decide +kernel, rfl, by decide +kernel, by decide +kernel⟩
def fallL (ns : List Int) : List Bool := (ns.zip (ns.drop 1)).map fun p => decide (p.2 < p.1)
theorem fallL_yes {ns : List Int} (h : ns.Pairwise (· > ·)) : (fallL ns).all id = true := by
  rw [List.all_eq_true]
  intro b m
  obtain ⟨⟨x, y⟩, mp, rfl⟩ := List.mem_map.mp m
  obtain ⟨i, e⟩ := List.mem_iff_getElem?.mp mp
  rw [List.getElem?_zip_eq_some] at e
  obtain ⟨e1, e2⟩ := e
  rw [List.getElem?_drop] at e2
  have l2 := at_lt e2
  have l1 := at_lt e1
  rw [List.getElem?_eq_getElem l1] at e1
  rw [List.getElem?_eq_getElem l2] at e2
  have := List.pairwise_iff_getElem.mp h i (1 + i) l1 l2 (by omega)
  rw [Option.some.inj e1, Option.some.inj e2] at this
  exact decide_eq_true this
def sp_falls (K : PySem.W.Frag) : Sp := fun vs H Q _ => ∃ (a : Addr) (ns : List Int), vs = [.ref a] ∧ SqL K H a (ns.map V.int) ∧ ns.length ≤ 1000 ∧ ∀ H', Same H H' → Q (.bl ((fallL ns).all id)) H'
theorem ok_falls (A : At K mg "falls" P_falls s_falls) (B : Bi mg) : Df P w K mg base 1 "falls" P_falls s_falls (sp_falls K) := by
  refine A.df fun f fd F => F.ok sc_falls (fun vs H Q E h => ?_) (fun cdv AA outer s H vs Q E hr h => ?_)
  · obtain ⟨_, _, rfl, _⟩ := h
    rfl
  · obtain ⟨a, ns, rfl, hS, hl, q⟩ := h
    have nd := sc_falls.nd
    refine ⟨_, (pss_one (ps_ret (pe_callB (cr_all rfl) (by rfl) B.all (by decide +kernel) (pa_cons (pe_lc (own := [("elder", 1), ("younger", 2)]) (tt := tYes) rfl nd (pi_zip (by rfl) B.zip (pa_cons (pv 0) (pa_cons (pe_slice sl_list (pv 0) (po_some pe_int) po_none) pa_nil))) (blkOk_by (N := N_falls) (sc := defScope s_falls) (by decide +kernel)) (fun _ _ _ _ _ => (pgTupK K 2 (by rfl) (pgs_cons (pg_name (i := 1) nd rfl (.inl rfl)) (pgs_cons (pg_name (i := 2) nd rfl (.inl rfl)) pgs_nil)))) (fun _ _ _ _ _ => pts_nil) (fun _ _ _ _ _ => (pe_cmpR op_lt (pv 2) (pv 1) (nomark _)))) pa_nil)))), ?_⟩
    refine ⟨.ref a, rfl, .ref a, rfl, 1, rfl, a, _, rfl, hS, fun c nc => ?_⟩
    rw [cut_1, ← List.map_drop]
    have s1 : Same H (upd H c (.lst ((ns.drop 1).map V.int))) := same_new nc
    have ec : upd H c (.lst ((ns.drop 1).map V.int)) c = some (.lst ((ns.drop 1).map V.int)) := upd_same
    generalize upd H c (.lst ((ns.drop 1).map V.int)) = H1 at s1 ec ⊢
    refine ⟨a, c, _, _, rfl, s1.seq hS, SqL.of ec, fun D nD => ?_⟩
    refine lc_it (walk_zip (xs := ns.map V.int) (ys := (ns.drop 1).map V.int) rfl) (fun i H2 => Same H1 H2 ∧ H2 D = some (.lst (((fallL ns).take i).map V.bl))) ⟨same_new nD, upd_same⟩ (fun i H2 _ hW => ?_) (fun i x H2 H3 hi hW hY => ?_) (fun H2 hW => ?_)
    · exact ⟨(s1.trans hW.1).seq hS, SqL.of (hW.1 _ _ ec)⟩
    · obtain ⟨sm, e⟩ := hW
      obtain ⟨T, x, y, rfl, nT, rfl, hx, hy⟩ := hY
      obtain ⟨m, em, rfl⟩ := ints_at hx
      obtain ⟨n, en, rfl⟩ := ints_at hy
      have ef : (fallL ns)[i]? = some (decide (n < m)) := by
        unfold fallL
        rw [List.getElem?_map]
        have : (ns.zip (ns.drop 1))[i]? = some (m, n) := List.getElem?_zip_eq_some.mpr ⟨em, en⟩
        rw [this]
        rfl
      refine ⟨T, _, rfl, SqT.of upd_same, rfl, .int m, _, rfl, .int n, _, rfl, rfl, rfl, .int n, rfl, .int m, rfl, _, _, rfl, rfl, ?_⟩
      have hlt := at_lt ef
      refine ⟨((fallL ns).take i).map V.bl, ?_, ils (by rw [List.length_map, List.length_take]; have := at_lt em; omega), ?_, ?_⟩
      · rw [upd_ne (ne_of_none e nT)]
        exact e
      · exact Same.mut (sm.trans (same_new nT)) nD
      · rw [upd_same, take_snoc ef, List.map_append]
        rfl
    · obtain ⟨sm, e⟩ := hW
      have hlen : min (ns.map V.int).length ((ns.drop 1).map V.int).length = (fallL ns).length := by
        unfold fallL
        rw [List.length_map, List.length_map, List.length_map, List.length_zip]
      rw [hlen, List.take_length] at e
      exact ⟨_, _, rfl, SqL.of e, q H2 (s1.trans sm)⟩
end
end El
namespace El
open PySem PySem.Spec PyProof.Rows L2 SX
section
variable {P : Program} {w : World} {K : PySem.W.Frag} {mg : Str → Option Value} {base : Heap}
abbrev s_read_rooms : Stmt := topS 10
abbrev N_read_rooms : List Str := ["text", "rooms", "ages", "part", "room", "age"]
abbrev P_read_rooms : List Str := ["text"]
theorem sc_read_rooms : FnScope N_read_rooms P_read_rooms (defScope s_read_rooms) := ⟨rfl, rfl, rfl, by decide +kernel, rfl, by decide +kernel, by decide +kernel⟩
theorem RmsAt.add {H : Hp} {B : Addr → Prop} {o u : Addr} {ts : List Addr} {rs : List (List Int)} {r : List Int} (h : RmsAt H B o ts rs) (e : H u = some (.lst (r.map V.int))) (bu : B u) (hu : u ∉ ts) (uo : u ≠ o) :
    RmsAt (upd H o (.lst (ts.map V.ref ++ [.ref u]))) B o (ts ++ [u]) (rs ++ [r]) := by
  have no : ∀ t ∈ ts, t ≠ o := fun t m z => h.no (z ▸ m)
  refine ⟨by rw [upd_same, List.map_append]; rfl, h.bo, ?_, ?_, ?_, fun i t r' e1 e2 => ?_, fun t m => ?_⟩
  · rw [List.nodup_append]
    refine ⟨h.nd, by simp, fun a m b mb => ?_⟩
    rw [List.mem_singleton.mp mb]
    exact fun z => hu (z ▸ m)
  · intro m
    rcases List.mem_append.mp m with m | m
    · exact h.no m
    · exact uo (List.mem_singleton.mp m).symm
  · rw [List.length_append, List.length_append, h.len]
    rfl
  · by_cases hi : i < ts.length
    · rw [List.getElem?_append_left hi] at e1
      rw [List.getElem?_append_left (by rw [← h.len]; exact hi)] at e2
      rw [upd_ne (no t (List.mem_of_getElem? e1))]
      exact h.at' i t r' e1 e2
    · have hi2 := at_lt e1
      rw [List.length_append, List.length_singleton] at hi2
      have : i = ts.length := by omega
      subst this
      rw [List.getElem?_append_right (Nat.le_refl _), Nat.sub_self] at e1
      rw [h.len, List.getElem?_append_right (Nat.le_refl _), Nat.sub_self] at e2
      obtain rfl := Option.some.inj e1
      obtain rfl := Option.some.inj e2
      rw [upd_ne uo]
      exact e
  · rcases List.mem_append.mp m with m | m
    · exact h.b t m
    · rw [List.mem_singleton.mp m]
      exact bu
def sp_read_rooms : Sp := fun vs H Q _ => ∃ (rs : List (List Int)), vs = [.str (S (roomsT rs))] ∧ Rml rs ∧ (∀ r ∈ rs, r.Pairwise (· > ·)) ∧ rs.flatten.Nodup ∧ ∀ H' u ts, Same H H' → RmsAt H' (fun a => H a = none) u ts rs → Q (.ref u) H'
theorem ok_read_rooms (A : At K mg "read_rooms" P_read_rooms s_read_rooms) (B : Bi mg) (D_parts_of : Df P w K mg base 1 "parts_of" P_parts_of s_parts_of sp_parts_of) (D_read_numbers : Df P w K mg base 2 "read_numbers" P_read_numbers s_read_numbers sp_read_numbers) (D_falls : Df P w K mg base 1 "falls" P_falls s_falls (sp_falls K)) : Df P w K mg base 3 "read_rooms" P_read_rooms s_read_rooms sp_read_rooms := by
  refine A.df fun f fd F => F.ok sc_read_rooms (fun vs H Q E h => ?_) (fun cdv AA outer s H vs Q E hr h => ?_)
  · obtain ⟨_, rfl, _⟩ := h
    rfl
  · obtain ⟨rs, rfl, hm, hf, hnd, q⟩ := h
    have nd := sc_read_rooms.nd
    refine ⟨_, (pss_cons (ps_setLc (i := 1) (own := [("part", 3)]) (tt := tYes) rfl nd rfl rfl (sw_true rfl rfl rfl (by decide +kernel)) (pi_list (pe_df D_parts_of (hr.mono (by decide)) (by rfl) (pa_cons (pv 0) (pa_cons pe_str pa_nil)))) (blkOk_by (N := N_read_rooms) (sc := defScope s_read_rooms) (by decide +kernel)) (fun _ _ _ _ _ => (pg_name (i := 3) nd rfl (.inl rfl))) (fun _ _ _ _ _ => pts_nil) (fun _ _ _ _ _ => (pe_df D_read_numbers (hr.mono (by decide)) (by rfl) (pa_cons (pv 0) (pa_cons (pv 3) (pa_cons pe_str pa_nil))))))
    (pss_cons (ps_setLc2 (i := 2) (own := [("room", 4), ("age", 5)]) (vs1 := [5]) (tt := tYes) (tt1 := tYes) rfl nd rfl rfl (sw_true rfl rfl rfl (by decide +kernel)) (pi_list (pv 1)) (blkOk_by (N := N_read_rooms) (sc := defScope s_read_rooms) (by decide +kernel)) (by decide) (fun _ _ _ _ _ => (pg_name (i := 4) nd rfl (.inl rfl))) (fun _ _ _ _ _ => pts_nil) (fun _ _ _ _ _ => (piListK K (pv 4))) (fun _ _ _ _ _ => (pg_name (i := 5) nd rfl (.inl rfl))) (fun _ _ _ _ _ => pts_nil) (fun _ _ _ _ _ => (pv 5)))
    (pss_cons (ps_if (PW.pt (pw_or (pt_not (pt_val (pe_callB (cr_all rfl) (by rfl) B.all (by decide +kernel) (pa_cons (pe_lc (own := [("room", 4)]) (tt := tYes) rfl nd (pi_list (pv 1)) (blkOk_by (N := N_read_rooms) (sc := defScope s_read_rooms) (by decide +kernel)) (fun _ _ _ _ _ => (pg_name (i := 4) nd rfl (.inl rfl))) (fun _ _ _ _ _ => pts_nil) (fun _ _ _ _ _ => (pe_df D_falls (hr.mono (by decide)) (by rfl) (pa_cons (pv 4) pa_nil)))) pa_nil)))) (pw_or1 (pt_cmpR op_lt (RZ.pe_lenSetI (by rfl) B.len (by rfl) B.set_ (pv 2)) (pe_callB call_len_seq (by rfl) B.len PySem.boot_len (pa_cons (pv 2) pa_nil)) (nomark _))))) (pss_one ps_never) pss_nil)
    (pss_one (ps_ret (pv 1)))))), ?_⟩
    have hlen := roomsT_len hm
    have hrl := hm.rooms
    refine ⟨.str (S (roomsT rs)), rfl, roomsT rs, barL, rs.map roomW, by rw [← bar_S]; rfl, by decide, by omega, ?_, fun W nW => ?_⟩
    · by_cases hn : rs = []
      · subst hn
        exact .inl ⟨rfl, rfl⟩
      · exact .inr ⟨rooms_none hn hm.ne, split_rooms hn⟩
    have sW : Same H (upd H W (.lst (((rs.map roomW).map S).map V.str))) := same_new nW
    have eW : (upd H W (.lst (((rs.map roomW).map S).map V.str))) W = some (.lst (((rs.map roomW).map S).map V.str)) := upd_same
    generalize upd H W (.lst (((rs.map roomW).map S).map V.str)) = H1 at sW eW ⊢
    have hlenW : (((rs.map roomW).map S).map V.str).length = rs.length := by rw [List.length_map, List.length_map, List.length_map]
    have gW : ∀ k x, (((rs.map roomW).map S).map V.str)[k]? = some x → ∃ r, rs[k]? = some r ∧ x = V.str (S (roomW r)) := fun k x h => by
      rw [List.getElem?_map, List.getElem?_map, List.getElem?_map] at h
      cases e : rs[k]? with
      | none => rw [e] at h; cases h
      | some r => rw [e] at h; exact ⟨r, e, (Option.some.inj h).symm⟩
    refine ⟨W, rfl, ⟨_, SqL.of eW⟩, fun D nD => ?_⟩
    refine lc_it (walk_list (xs := ((rs.map roomW).map S).map V.str)) (fun k H2 => Same H1 H2 ∧ ∃ ts, RmsAt H2 (fun z => H1 z = none) D ts (rs.take k)) ⟨same_new nD, [], RmsAt.nil upd_same nD⟩ (fun k H2 _ hW => SqL.of (hW.1 _ _ eW)) (fun k x H2 H3 hk hW hY => ?_) (fun H2 hW => ?_)
    · obtain ⟨sm, ts, hR⟩ := hW
      obtain ⟨rfl, hx⟩ := hY
      obtain ⟨r, er, rfl⟩ := gW k x hx
      have mr := List.mem_of_getElem? er
      refine ⟨rfl, .str (S (roomsT rs)), rfl, .str (S (roomW r)), rfl, _, 44, r, by rw [← one_S.2.2.2.1]; rfl, ⟨by decide, by decide, by decide, .inl (by decide)⟩, hm.sm r mr, hm.ne r mr, Nat.le_trans (hm.room mr) (by decide), fun H4 u s4 nu eu => ?_⟩
      have hR4 := hR.same s4
      have nu1 : H1 u = none := sm.free nu
      have huD : u ≠ D := fun z => by
        have := hR.top
        rw [← z, nu] at this
        cases this
      have hut : u ∉ ts := fun m => by
        obtain ⟨i, e⟩ := List.mem_iff_getElem?.mp m
        have hi := at_lt e
        rw [hR.len] at hi
        obtain ⟨r', e2⟩ := at_some hi
        have := hR.at' i u r' e e2
        rw [nu] at this
        cases this
      refine ⟨_, hR4.top, ils (by rw [List.length_map, hR.len, List.length_take]; omega), Same.mut (sm.trans s4) nD, ts ++ [u], ?_⟩
      rw [take_snoc er]
      exact hR4.add eu nu1 hut huD
    · obtain ⟨sm, ts, hR⟩ := hW
      rw [hlenW, List.take_length] at hR
      have s2 := sW.trans sm
      -- ages
      refine ⟨.ref D, rfl, D, rfl, ⟨_, hR.seq⟩, fun D2 nD2 => ?_⟩
      refine out_it (walk_list (xs := ts.map V.ref)) (fun i H3 => Same H2 H3 ∧ H3 D2 = some (.lst (((rs.take i).flatten).map V.int))) ⟨same_new nD2, upd_same⟩ (fun i H3 _ hW => ?_) (fun i x H3 H4 hi hW hY => ?_) (fun H3 hW => ?_)
      · exact (hR.same hW.1).seq
      · obtain ⟨sm3, hD⟩ := hW
        obtain ⟨rfl, hx⟩ := hY
        obtain ⟨t, r, rfl, _, er, et⟩ := (hR.same sm3).get hx
        refine ⟨rfl, .ref t, rfl, t, rfl, ⟨_, SqL.of et⟩, ?_⟩
        have et2 : H2 t = some (.lst (r.map V.int)) := by
          obtain ⟨t', r', e1, _, er', et'⟩ := hR.get hx
          injection e1 with e1
          subst e1
          obtain rfl := Option.some.inj (er.symm.trans er')
          exact et'
        have ntD : t ≠ D2 := fun z => by
          rw [z, nD2] at et2
          cases et2
        have hlen2 : ((rs.take i).flatten ++ r).length ≤ rs.flatten.length := by
          rw [← take_snoc_flat er, ← List.take_append_drop (i + 1) rs, List.flatten_append, List.length_append, List.take_append_drop]
          exact Nat.le_add_right _ _
        rw [List.length_append] at hlen2
        have hfew := hm.few
        refine out_it (walk_list (xs := r.map V.int)) (fun k H5 => Same H2 H5 ∧ H5 t = some (.lst (r.map V.int)) ∧ H5 D2 = some (.lst (((rs.take i).flatten ++ r.take k).map V.int))) ⟨sm3, et, by rw [List.take_zero, List.append_nil]; exact hD⟩ (fun k H5 _ hW => ?_) (fun k x H5 H6 hk hW hY => ?_) (fun H5 hW => ?_)
        · exact SqL.of hW.2.1
        · obtain ⟨sm5, et5, hD5⟩ := hW
          obtain ⟨rfl, hx⟩ := hY
          obtain ⟨a', ea, rfl⟩ := ints_at hx
          refine ⟨rfl, .int a', rfl, _, hD5, ils (by rw [List.length_map, List.length_append, List.length_take]; omega), Same.mut sm5 nD2, ?_, ?_⟩
          · rw [upd_ne ntD]
            exact et5
          · rw [upd_same, take_snoc ea, ← List.append_assoc, List.map_append (l₂ := [a'])]
            rfl
        · obtain ⟨sm5, et5, hD5⟩ := hW
          rw [List.length_map, take_full, ← take_snoc_flat er] at hD5
          exact ⟨sm5, hD5⟩
      obtain ⟨s3, eA⟩ := hW
      rw [List.length_map, hR.len, take_full] at eA
      have hR3 := hR.same s3
      -- each falls
      refine ⟨.ref D, rfl, D, rfl, ⟨_, hR3.seq⟩, fun D3 nD3 => ?_⟩
      refine lc_it (walk_list (xs := ts.map V.ref)) (fun k H4 => Same H3 H4 ∧ H4 D3 = some (.lst ((List.replicate k true).map V.bl))) ⟨same_new nD3, upd_same⟩ (fun k H4 _ hW => (hR3.same hW.1).seq) (fun k x H4 H5 hk hW hY => ?_) (fun H4 hW => ?_)
      · obtain ⟨sm4, e⟩ := hW
        obtain ⟨rfl, hx⟩ := hY
        obtain ⟨t, r, rfl, _, er, et⟩ := (hR3.same sm4).get hx
        have mr := List.mem_of_getElem? er
        refine ⟨rfl, .ref t, rfl, t, r, rfl, SqL.of et, hm.room mr, fun H6 s6 => ?_⟩
        rw [fallL_yes (hf r mr)]
        refine ⟨_, s6 _ _ e, ils (by rw [List.length_map, List.length_replicate]; rw [List.length_map, hR.len] at hk; omega), Same.mut (sm4.trans s6) nD3, ?_⟩
        rw [upd_same, List.replicate_succ', List.map_append]
        rfl
      · obtain ⟨sm4, e⟩ := hW
        refine ⟨_, _, rfl, SqL.of e, _, rfl, ?_⟩
        have ha : ((List.replicate (ts.map V.ref).length true).all id) = true := by
          rw [List.all_eq_true]
          intro b m
          exact (List.mem_replicate.mp m).2
        rw [ha]
        refine iteX rfl ?_
        have eA4 := sm4 _ _ eA
        refine ⟨.ref D2, rfl, D2, rs.flatten, rfl, SqL.of eA4, hnd, Nat.le_trans hm.few (by decide), .ref D2, rfl, D2, _, rfl, .inl (SqL.of eA4), _, _, rfl, rfl, _, rfl, ?_⟩
        rw [List.length_map, decide_eq_false (Int.lt_irrefl _)]
        refine iteX rfl ?_
        exact ⟨_, rfl, q H4 D ts (s2.trans (s3.trans sm4)) ((hR.same (s3.trans sm4)).weaken fun z hz => sW.free hz)⟩
end
end El
namespace El
open PySem PySem.Spec PyProof.Rows L2
/-! ### the tray of draws -/
structure Tray (H : Hp) (t g : Addr) (n : Nat) : Prop where
  ne : t ≠ g
  ex : ∃ (gs : List Int) (a c d : Int), H t = some (.lst [.ref g, .int a, .int c, .int d]) ∧ H g = some (.lst (gs.map V.int)) ∧ (∀ x ∈ gs, 0 ≤ x) ∧ gs.length ≤ 63 ∧ 0 ≤ a ∧ 0 ≤ c ∧ c < 2305843009213693951 ∧ 0 ≤ d ∧ d ≤ n
/-- what is no part of the tray -/
def Off (t g : Addr) (b : Addr) : Prop := b ≠ t ∧ b ≠ g
theorem Tray.keep {H H' : Hp} {t g : Addr} {n : Nat} (h : Tray H t g n) (k : Same H H') : Tray H' t g n := by
  obtain ⟨gs, a, c, d, h1, h2, h3⟩ := h.ex
  exact ⟨h.ne, gs, a, c, d, k _ _ h1, k _ _ h2, h3⟩
theorem Tray.more {H : Hp} {t g : Addr} {n m : Nat} (h : Tray H t g n) (k : n ≤ m) : Tray H t g m := by
  obtain ⟨gs, a, c, d, h1, h2, h3, h4, h5, h6, h7, h8, h9⟩ := h.ex
  exact ⟨h.ne, gs, a, c, d, h1, h2, h3, h4, h5, h6, h7, h8, by omega⟩
theorem Tray.off {H : Hp} {t g : Addr} {n : Nat} (h : Tray H t g n) {p : Addr} (e : H p = none) : Off t g p := by
  obtain ⟨gs, a, c, d, h1, h2, _⟩ := h.ex
  exact ⟨no_of h1 e, no_of h2 e⟩
theorem Tray.mut {H : Hp} {t g : Addr} {n : Nat} (h : Tray H t g n) {p : Addr} {o : HO} (k : Off t g p) : Tray (upd H p o) t g n := by
  obtain ⟨gs, a, c, d, h1, h2, h3⟩ := h.ex
  exact ⟨h.ne, gs, a, c, d, by rw [upd_ne k.1.symm]; exact h1, by rw [upd_ne k.2.symm]; exact h2, h3⟩
theorem Kp.off {H H' : Hp} {t g p : Addr} {o : HO} (e : Kp (Off t g) H H') (h : p = t ∨ p = g) : Kp (Off t g) H (upd H' p o) := e.mut fun z => by
  rcases h with rfl | rfl
  · exact z.1 rfl
  · exact z.2 rfl
end El
namespace El
open PySem PySem.Spec PyProof.Rows L2
section
variable {P : Program} {w : World} {K : PySem.W.Frag} {mg : Str → Option Value} {base : Heap}
abbrev s__law_tray : Stmt := topS 19
abbrev N__law_tray : List Str := ["script", "fold", "great", "cell", "much"]
abbrev P__law_tray : List Str := ["script"]
theorem sc__law_tray : FnScope N__law_tray P__law_tray (defScope s__law_tray) := ⟨rfl, rfl, rfl, by decide +kernel, rfl, by decide +kernel, by decide +kernel⟩
def sp__law_tray (K : PySem.W.Frag) : Sp := fun vs H Q _ => ∃ (a : Addr) (ns : List Int), vs = [.ref a] ∧ SqL K H a (ns.map V.int) ∧ ns.length ≤ 63 ∧
  ∀ H' t g, Same H H' → H t = none → H g = none → Tray H' t g 0 → Q (.ref t) H'
theorem ok__law_tray (A : At K mg "_law_tray" P__law_tray s__law_tray) (B : Bi mg) : Df P w K mg base 1 "_law_tray" P__law_tray s__law_tray (sp__law_tray K) := by
  refine A.df fun f fd F => F.ok sc__law_tray (fun vs H Q E h => ?_) (fun cdv AA outer s H vs Q E hr h => ?_)
  · obtain ⟨a, _, rfl, _⟩ := h
    rfl
  · obtain ⟨a, ns, rfl, hS, hl, q⟩ := h
    have nd := sc__law_tray.nd
    refine ⟨_, (pss_cons (ps_set (i := 1) nd rfl (.inl rfl) pe_int)
    (pss_cons (ps_set (i := 2) nd rfl (.inl rfl) (pe_lst pa_nil))
    (pss_cons (ps_for PassesOwn.never rfl (pi_list (pv 0)) (pg_name (i := 3) nd rfl (.inl rfl)) (pss_cons (ps_set (i := 1) nd rfl (.inl rfl) (pe_op op_mod (pe_op op_add (pe_op op_mul (pv 1) pe_int) (pv 3)) (pe_op op_sub (pe_op op_pow pe_int pe_int) pe_int))) (pss_cons (ps_set (i := 4) nd rfl (.inl rfl) (pe_callB (call_max2 rfl) (by rfl) B.max (by decide +kernel) (pa_cons (pv 3) (pa_cons (pe_op op_sub pe_int (pv 3)) pa_nil)))) (pss_one (ps_if (pt_cmpR op_ge (pv 4) (pe_op op_pow pe_int pe_int) (nomark _)) (pss_one (ps_expr (pe_bm PySem.F.plainAttrs_list PySem.F.slot_list_append PySem.F.type_list_append mt_append (pv 2) (pa_cons (pe_op op_sub (pv 4) (pe_op op_pow pe_int pe_int)) pa_nil)))) pss_nil)))))
    (pss_one (ps_ret (pe_lst (pa_cons (pv 2) (pa_cons pe_int (pa_cons (pv 1) (pa_cons pe_int pa_nil)))))))))), ?_⟩
    refine ⟨Nat.zero_le _, fun g ng => ?_⟩
    refine ⟨.ref a, rfl, a, rfl, ⟨_, (same_new ng).seq hS⟩, ?_⟩
    refine for_it (walk_list (xs := ns.map V.int)) (fun i σ H2 => ∃ (c : Int) (gs : List Int) (y3 y4 : Option V), σ = [some (.ref a), some (.int c), some (.ref g), y3, y4] ∧ Same H H2 ∧ H2 g = some (.lst (gs.map V.int)) ∧ (∀ x ∈ gs, 0 ≤ x) ∧ gs.length ≤ i ∧ 0 ≤ c ∧ c < 2305843009213693951)
      ⟨314159265358979, [], none, none, rfl, same_new ng, upd_same, fun x h => absurd h (by simp), Nat.le_refl _, by decide, by decide⟩ (fun i σ H2 _ hW => ?_) (fun i x σ H2 H3 hi hW hY => ?_) (fun σ H2 hW => ?_)
    · obtain ⟨_, _, _, _, _, sm, _⟩ := hW
      exact sm.seq hS
    · obtain ⟨c, gs, y3, y4, rfl, sm, eg, hp, hgl, c0, c1⟩ := hW
      obtain ⟨rfl, hx⟩ := hY
      obtain ⟨n, hx', rfl⟩ := ints_at hx
      have hil : i < 63 := by
        rw [List.length_map] at hi
        omega
      -- fold = (fold * 1000003 + cell) % (2 ** 61 - 1)
      refine ⟨.int c, rfl, _, _, rfl, rfl, .inl ⟨by omega, by omega⟩, .int n, rfl, _, _, rfl, rfl, _, _, rfl, rfl, ⟨by decide, by decide, by decide⟩, _, _, rfl, rfl, _, _, rfl, rfl, (by show (0 : Int) < 2 ^ 61 - 1; decide), ?_⟩
      -- much = max(cell, 0 - cell)
      refine ⟨.int n, rfl, .int n, rfl, _, _, rfl, rfl, _, _, rfl, ?_⟩
      have m0 : 0 ≤ (if 0 - n > n then 0 - n else n) := by split <;> omega
      revert m0
      generalize (if 0 - n > n then 0 - n else n) = m
      intro m0
      have em : (2 : Int) ^ 61 - 1 = 2305843009213693951 := by decide
      have f0 : 0 ≤ (c * 1000003 + n) % (2 ^ 61 - 1) := Int.emod_nonneg _ (by decide)
      have f1 : (c * 1000003 + n) % (2 ^ 61 - 1) < 2305843009213693951 := by
        have := Int.emod_lt_of_pos (c * 1000003 + n) (show (0 : Int) < 2 ^ 61 - 1 by decide)
        omega
      -- if much >= 10 ** 18
      refine ⟨.int m, rfl, _, _, rfl, rfl, ⟨by decide, by decide, by decide⟩, _, _, rfl, rfl, _, rfl, ite2 (fun e => ?_) (fun e => ?_)⟩
      · have e : (10 : Int) ^ (18 : Int).toNat ≤ m := of_decide_eq_true e
        refine ⟨.ref g, rfl, .inl ⟨rfl, _, SqL.of eg⟩, .int m, rfl, _, _, rfl, rfl, ⟨by decide, by decide, by decide⟩, _, _, rfl, rfl, g, _, _, rfl, rfl, eg, ils (by rw [List.length_map]; omega), ?_⟩
        refine ⟨_, gs ++ [m - 10 ^ (18 : Int).toNat], _, _, rfl, Same.mut sm ng, by rw [upd_same, List.map_append]; rfl, fun x hx => ?_, by rw [List.length_append, List.length_singleton]; omega, f0, f1⟩
        rcases List.mem_append.mp hx with hx | hx
        · exact hp x hx
        · rw [List.mem_singleton.mp hx]
          omega
      · exact ⟨_, gs, _, _, rfl, sm, eg, hp, Nat.le_succ_of_le hgl, f0, f1⟩
    · obtain ⟨c, gs, y3, y4, rfl, sm, eg, hp, hgl, c0, c1⟩ := hW
      rw [List.length_map] at hgl
      refine ⟨.ref g, rfl, .int c, rfl, (by show 4 ≤ sizeLine; decide), fun t nt => ?_⟩
      have ntg : g ≠ t := ne_of_none eg nt
      exact q _ t g (sm.trans (same_new nt)) (sm.free nt) ng ⟨ntg.symm, gs, 0, c, 0, upd_same, by rw [upd_ne ntg]; exact eg, hp, by omega, by decide, c0, c1, by decide, by decide⟩
end
end El
namespace El
open PySem PySem.Spec PyProof.Rows L2
section
variable {P : Program} {w : World} {K : PySem.W.Frag} {mg : Str → Option Value} {base : Heap}
abbrev s__law_draw : Stmt := topS 20
abbrev N__law_draw : List Str := ["tray", "many", "found", "mixed"]
abbrev P__law_draw : List Str := ["tray", "many"]
theorem sc__law_draw : FnScope N__law_draw P__law_draw (defScope s__law_draw) := ⟨rfl, rfl, rfl, by decide +kernel, rfl, by decide +kernel, by decide +kernel⟩
def sp__law_draw : Sp := fun vs H Q _ => ∃ (t g : Addr) (n : Nat) (m : Int), vs = [.ref t, .int m] ∧ Tray H t g n ∧ n ≤ 1000000000 ∧ 0 < m ∧ m < 2 ^ 200 ∧
  ∀ H' r, Kp (Off t g) H H' → Tray H' t g (n + 1) → 0 ≤ r → r < m → Q (.int r) H'
theorem ok__law_draw (A : At K mg "_law_draw" P__law_draw s__law_draw) (B : Bi mg) : Df P w K mg base 1 "_law_draw" P__law_draw s__law_draw sp__law_draw := by
  refine A.df fun f fd F => F.ok sc__law_draw (fun vs H Q E h => ?_) (fun cdv AA outer s H vs Q E hr h => ?_)
  · obtain ⟨_, _, _, _, rfl, _⟩ := h
    rfl
  · obtain ⟨t, g, n, m, rfl, hT, hn, m0, m1, q⟩ := h
    have nd := sc__law_draw.nd
    refine ⟨_, (pss_cons (ps_while PassesOwn.never (PW.pt (pw_and (pt_cmpR op_lt (pe_ix ix_list (pv 0) pe_int (fun _ _ => rfl)) pe_int (nomark _)) (pw_and1 (pt_cmpR (op_neD hr.units) (pe_ix ix_list (pv 0) pe_int (fun _ _ => rfl)) (pe_lst pa_nil) (nomark _))))) (pss_one (ps_asg (pe_bm PySem.F.plainAttrs_list PySem.F.slot_list_pop PySem.F.type_list_pop mt_popAt (pe_ix ix_list (pv 0) pe_int (fun _ _ => rfl)) (pa_cons pe_int pa_nil)) (pg_sub (pv 0) pe_int set_list))))
    (pss_cons (ps_if (pt_cmpR op_ge (pe_ix ix_list (pv 0) pe_int (fun _ _ => rfl)) pe_int (nomark _)) (pss_cons (ps_set (i := 2) nd rfl (.inl rfl) (pe_op op_mod (pe_ix ix_list (pv 0) pe_int (fun _ _ => rfl)) (pv 1))) (pss_cons (ps_asg (pe_op op_fdivW (pe_ix ix_list (pv 0) pe_int (fun _ _ => rfl)) (pv 1)) (pg_sub (pv 0) pe_int set_list)) (pss_one (ps_ret (pv 2))))) pss_nil)
    (pss_cons (ps_asg (pe_op op_add (pe_ix ix_list (pv 0) pe_int (fun _ _ => rfl)) pe_int) (pg_sub (pv 0) pe_int set_list))
    (pss_cons (ps_set (i := 3) nd rfl (.inl rfl) (pe_op op_mod (pe_op op_add (pe_op op_mul (pe_op op_add (pe_ix ix_list (pv 0) pe_int (fun _ _ => rfl)) pe_int) (pe_op op_pow (pe_op op_add (pe_ix ix_list (pv 0) pe_int (fun _ _ => rfl)) pe_int) pe_int)) (pe_op op_mul pe_int (pe_ix ix_list (pv 0) pe_int (fun _ _ => rfl)))) (pe_op op_sub (pe_op op_pow pe_int pe_int) pe_int)))
    (pss_one (ps_ret (pe_op op_mod (pe_op op_fdivW (pe_op op_mod (pe_op op_pow (pv 3) pe_int) (pe_op op_add (pe_op op_pow pe_int pe_int) pe_int)) pe_int) (pv 1)))))))), ?_⟩
    have ne := hT.ne
    obtain ⟨gs0, a0, c0, d0, i1, i2, i3, i4, i5, i6, i7, i8, i9⟩ := hT.ex
    refine seq_to (fun σ H2 => σ = [some (.ref t), some (.int m), none, none] ∧ Kp (Off t g) H H2 ∧ Tray H2 t g n) (fun X hX => ?_) (fun σ H2 hE => ?_)
    · -- the while
      refine while_to (fun k σ H2 => σ = [some (.ref t), some (.int m), none, none] ∧ Kp (Off t g) H H2 ∧ ∃ (gs : List Int) (a c d : Int), H2 t = some (.lst [.ref g, .int a, .int c, .int d]) ∧ H2 g = some (.lst (gs.map V.int)) ∧ (∀ x ∈ gs, 0 ≤ x) ∧ gs.length ≤ 63 ∧ 0 ≤ a ∧ 0 ≤ c ∧ c < 2305843009213693951 ∧ 0 ≤ d ∧ d ≤ n ∧ k = gs.length)
        (fun σ H2 => σ = [some (.ref t), some (.int m), none, none] ∧ Kp (Off t g) H H2 ∧ Tray H2 t g n) ⟨gs0.length, rfl, Kp.refl, gs0, a0, c0, d0, i1, i2, i3, i4, i5, i6, i7, i8, i9, rfl⟩ hX (fun X hX k σ H2 hW => ?_)
      obtain ⟨rfl, kp, gs, a, c, d, j1, j2, j3, j4, j5, j6, j7, j8, j9, rfl⟩ := hW
      refine ⟨.ref t, rfl, t, _, 1, .int a, rfl, rfl, SqL.of j1, atI_nat (j := 1) rfl, _, _, rfl, rfl, _, rfl, ite2 (fun ea => ?_) (fun ea => ?_)⟩
      · refine ⟨.ref t, rfl, t, _, 0, .ref g, rfl, rfl, SqL.of j1, atI_nat (j := 0) rfl, Nat.zero_le _, fun u nu => ?_⟩
        have s1 : Same H2 (upd H2 u (.lst [])) := same_new nu
        refine ⟨dInts gs, dInts [], Dp.ints (s1 _ _ j2), Dp.ints upd_same, (Oks.ints _).shaped, (Oks.ints _).shaped, _, rfl, ?_⟩
        rw [eqv_nil]
        cases gs with
        | nil => exact iteF (hX _ _ ⟨rfl, kp.trans (.of s1), ne, [], a, c, d, s1 _ _ j1, s1 _ _ j2, j3, j4, j5, j6, j7, j8, j9⟩)
        | cons x r =>
          refine iteT ⟨fun σ' H' => σ' = [some (.ref t), some (.int m), none, none] ∧ Kp (Off t g) H H' ∧ ∃ (gs : List Int) (a c d : Int), H' t = some (.lst [.ref g, .int a, .int c, .int d]) ∧ H' g = some (.lst (gs.map V.int)) ∧ (∀ x ∈ gs, 0 ≤ x) ∧ gs.length ≤ 63 ∧ 0 ≤ a ∧ 0 ≤ c ∧ c < 2305843009213693951 ∧ 0 ≤ d ∧ d ≤ n ∧ r.length = gs.length, fun σ' H' h => ⟨r.length, Nat.lt_succ_self _, h⟩, ?_⟩
          refine ⟨.ref t, rfl, t, _, 0, .ref g, rfl, rfl, SqL.of (s1 _ _ j1), atI_nat (j := 0) rfl, .inl ⟨rfl, _, SqL.of (s1 _ _ j2)⟩, g, _, 0, 0, .int x, rfl, rfl, s1 _ _ j2, by decide, by decide, seq_ix (j := 0) (by simp), rfl, ?_⟩
          refine ⟨.ref t, rfl, t, _, 1, 1, rfl, rfl, (by rw [upd_ne ne]; exact s1 _ _ j1), rfl, ?_⟩
          refine ⟨rfl, (Kp.off (Kp.off (kp.trans (.of s1)) (.inr rfl)) (.inl rfl)), r, x, c, d, by rw [upd_same]; rfl, by rw [upd_ne ne.symm, upd_same]; rfl, fun y hy => j3 y (List.mem_cons_of_mem _ hy), Nat.le_of_succ_le j4, j3 x List.mem_cons_self, j6, j7, j8, j9, rfl⟩
      · exact iteF (hX _ _ ⟨rfl, kp, ne, gs, a, c, d, j1, j2, j3, j4, j5, j6, j7, j8, j9⟩)
    · obtain ⟨rfl, kp, hT2⟩ := hE
      obtain ⟨gs, a, c, d, j1, j2, j3, j4, j5, j6, j7, j8, j9⟩ := hT2.ex
      have g1 : CDivW a m := ⟨m0, Nat.lt_trans (log_lt m0 m1) (by decide)⟩
      -- if tray[1] >= 2
      refine ⟨.ref t, rfl, t, _, 1, .int a, rfl, rfl, SqL.of j1, atI_nat (j := 1) rfl, _, _, rfl, rfl, _, rfl, ite2 (fun ea => ?_) (fun ea => ?_)⟩
      · refine ⟨.ref t, rfl, t, _, 1, .int a, rfl, rfl, SqL.of j1, atI_nat (j := 1) rfl, .int m, rfl, _, _, rfl, rfl, m0, ?_⟩
        refine ⟨.ref t, rfl, t, _, 1, .int a, rfl, rfl, SqL.of j1, atI_nat (j := 1) rfl, .int m, rfl, _, _, rfl, rfl, g1, ?_⟩
        refine ⟨.ref t, rfl, t, _, 1, 1, rfl, rfl, j1, rfl, _, rfl, ?_⟩
        exact q _ _ (Kp.off kp (.inl rfl)) ⟨ne, gs, a / m, c, d, by rw [upd_same]; rfl, by rw [upd_ne ne.symm]; exact j2, j3, j4, Int.ediv_nonneg j5 (by omega), j6, j7, j8, by omega⟩ (Int.emod_nonneg _ (by omega)) (Int.emod_lt_of_pos _ m0)
      · -- tray[3] = tray[3] + 1
        refine ⟨.ref t, rfl, t, _, 3, .int d, rfl, rfl, SqL.of j1, atI_nat (j := 3) rfl, _, _, rfl, rfl, ?_⟩
        refine ⟨.ref t, rfl, t, _, 3, 3, rfl, rfl, j1, rfl, ?_⟩
        have e1 : upd H2 t (.lst ([V.ref g, .int a, .int c, .int d].set 3 (.int (d + 1)))) t = some (.lst [.ref g, .int a, .int c, .int (d + 1)]) := by rw [upd_same]; rfl
        have hT3 : Tray (upd H2 t (.lst ([V.ref g, .int a, .int c, .int d].set 3 (.int (d + 1))))) t g (n + 1) := ⟨ne, gs, a, c, d + 1, e1, by rw [upd_ne ne.symm]; exact j2, j3, j4, j5, j6, j7, by omega, by omega⟩
        have k3 : Kp (Off t g) H (upd H2 t (.lst ([V.ref g, .int a, .int c, .int d].set 3 (.int (d + 1))))) := Kp.off kp (.inl rfl)
        revert e1 hT3 k3
        generalize upd H2 t (.lst ([V.ref g, .int a, .int c, .int d].set 3 (.int (d + 1)))) = H3
        intro e1 hT3 k3
        -- mixed
        refine ⟨.ref t, rfl, t, _, 2, .int c, rfl, rfl, SqL.of e1, atI_nat (j := 2) rfl, _, _, rfl, rfl, .ref t, rfl, t, _, 3, .int (d + 1), rfl, rfl, SqL.of e1, atI_nat (j := 3) rfl, _, _, rfl, rfl, _, _, rfl, rfl, ⟨by decide, by decide, ?_⟩, _, _, rfl, rfl, .inl ⟨by omega, by omega⟩,
          .ref t, rfl, t, _, 3, .int (d + 1), rfl, rfl, SqL.of e1, atI_nat (j := 3) rfl, _, _, rfl, rfl, .inl ⟨by decide, by decide⟩, _, _, rfl, rfl, _, _, rfl, rfl, ⟨by decide, by decide, by decide⟩, _, _, rfl, rfl, _, _, rfl, rfl, (by show (0 : Int) < 2 ^ 61 - 1; decide), ?_⟩
        · show (d + 1 + 2).natAbs < 2 ^ 64
          omega
        · have f0 : 0 ≤ ((c + 5) * (d + 1 + 2) ^ (3 : Int).toNat + 1000003 * (d + 1)) % (2 ^ (61 : Int).toNat - 1) := Int.emod_nonneg _ (by decide)
          have f1 : ((c + 5) * (d + 1 + 2) ^ (3 : Int).toNat + 1000003 * (d + 1)) % (2 ^ (61 : Int).toNat - 1) < 2 ^ 61 - 1 := Int.emod_lt_of_pos _ (show (0 : Int) < 2 ^ 61 - 1 by decide)
          refine ⟨_, rfl, _, _, rfl, rfl, ⟨by decide, by decide, ?_⟩, _, _, rfl, rfl, ⟨by decide, by decide, by decide⟩, _, _, rfl, rfl, _, _, rfl, rfl, (by show (0 : Int) < 10 ^ 18 + 9; decide), _, _, rfl, rfl, ⟨by decide, by decide⟩, .int m, rfl, _, _, rfl, rfl, m0, ?_⟩
          · show (((c + 5) * (d + 1 + 2) ^ (3 : Int).toNat + 1000003 * (d + 1)) % (2 ^ (61 : Int).toNat - 1)).natAbs < 2 ^ 64
            omega
          · exact q _ _ k3 hT3 (Int.emod_nonneg _ (by omega)) (Int.emod_lt_of_pos _ m0)
end
end El
namespace El
open PySem PySem.Spec PyProof.Rows L2
section
variable {P : Program} {w : World} {K : PySem.W.Frag} {mg : Str → Option Value} {base : Heap}
abbrev s__law_alike : Stmt := topS 21
abbrev N__law_alike : List Str := ["found", "due", "k"]
abbrev P__law_alike : List Str := ["found", "due"]
theorem sc__law_alike : FnScope N__law_alike P__law_alike (defScope s__law_alike) := ⟨rfl, rfl, rfl, by decide +kernel, rfl, by decide +kernel, by decide +kernel⟩
def sp__law_alike (n : Nat) : Sp := fun vs H Q _ => ∃ x y : V, vs = [x, y] ∧ Alk H n x y ∧ ∀ H', Same H H' → Q (.bl true) H'
/-- the rest behind the lengths, for what is a list or a tuple -/
theorem ok__law_alike (A : At K mg "_law_alike" P__law_alike s__law_alike) (B : Bi mg) : ∀ n : Nat, Df P w K mg base (n + 1) "_law_alike" P__law_alike s__law_alike (sp__law_alike n) := by
  intro n
  induction n with
  | zero =>
    refine A.df fun f fd F => F.ok sc__law_alike (fun vs H Q E h => ?_) (fun cdv AA outer s H vs Q E hr h => ?_)
    · obtain ⟨_, _, rfl, _⟩ := h
      rfl
    · obtain ⟨x, y, rfl, hA, q⟩ := h
      have nd := sc__law_alike.nd
      refine ⟨_, (pss_cons (ps_if (pt_cmpR op_isN (pv 1) pe_non (nomark _)) (pss_one (ps_ret (pe_cmpR op_isN (pv 0) pe_non (nomark _)))) pss_nil)
    (pss_cons (ps_if (pt_val (pe_callB call_isi (by rfl) B.isinstance (by decide +kernel) (pa_cons (pv 1) (pa_cons (pe_bltn (by rfl) B.bool_ boot_bool (relTy _)) pa_nil)))) (pss_one (ps_ret (pe_and (pe_callB call_isi (by rfl) B.isinstance (by decide +kernel) (pa_cons (pv 0) (pa_cons (pe_bltn (by rfl) B.bool_ boot_bool (relTy _)) pa_nil))) (pe_one (pe_cmpR op_eq (pv 0) (pv 1) (nomark _)))))) pss_nil)
    (pss_cons (ps_if (pt_val (pe_callB call_isi (by rfl) B.isinstance (by decide +kernel) (pa_cons (pv 1) (pa_cons (pe_bltn (by rfl) B.int_ boot_int (relTy _)) pa_nil)))) (pss_one (ps_ret (pe_and (pe_callB call_isi (by rfl) B.isinstance (by decide +kernel) (pa_cons (pv 0) (pa_cons (pe_bltn (by rfl) B.int_ boot_int (relTy _)) pa_nil))) (pe_and (pe_not (pe_callB call_isi (by rfl) B.isinstance (by decide +kernel) (pa_cons (pv 0) (pa_cons (pe_bltn (by rfl) B.bool_ boot_bool (relTy _)) pa_nil)))) (pe_one (pe_cmpR op_eq (pv 0) (pv 1) (nomark _))))))) pss_nil)
    (pss_cons (ps_if (pt_val (pe_callB call_isi (by rfl) B.isinstance (by decide +kernel) (pa_cons (pv 1) (pa_cons (pe_bltn (by rfl) B.str_ boot_str (relTy _)) pa_nil)))) (pss_one (ps_ret (pe_and (pe_callB call_isi (by rfl) B.isinstance (by decide +kernel) (pa_cons (pv 0) (pa_cons (pe_bltn (by rfl) B.str_ boot_str (relTy _)) pa_nil))) (pe_one (pe_cmpR op_eq (pv 0) (pv 1) (nomark _)))))) pss_nil)
    (pss_cons ps_never (pss_cons ps_never (pss_cons ps_never (pss_one ps_never)))))))), ?_⟩
      obtain ⟨hs, rfl⟩ := hA
      have kit : ∀ {a b : String} {r : Bool}, kitB a b = some r → PySem.W.kitOne K (.type a) (.type b) = some r := fun h => kit_ty h
      refine ⟨x, rfl, rfl, _, rfl, ite2 (fun e => ?_) (fun e => ?_)⟩
      · exact ⟨x, rfl, rfl, by rw [e]; exact q H (Same.refl _)⟩
      · cases x with
        | non => exact absurd rfl e
        | bl b =>
          refine ⟨.bl b, rfl, _, _, _, _, _, rfl, .ty _, .base (.bl b), kit_ty (by decide +kernel), _, rfl, iteT ?_⟩
          refine ⟨.bl b, rfl, _, _, _, _, _, rfl, .ty _, .base (.bl b), kit_ty (by decide +kernel), _, rfl, iteT ?_⟩
          exact ⟨.bl b, rfl, .bl b, rfl, rfl, by rw [decide_eq_true rfl]; exact q H (Same.refl _)⟩
        | int i =>
          refine ⟨.int i, rfl, _, _, _, _, _, rfl, .ty _, .base (.int i), kit_ty (by decide +kernel), _, rfl, iteF ?_⟩
          refine ⟨.int i, rfl, _, _, _, _, _, rfl, .ty _, .base (.int i), kit_ty (by decide +kernel), _, rfl, iteT ?_⟩
          refine ⟨.int i, rfl, _, _, _, _, _, rfl, .ty _, .base (.int i), kit_ty (by decide +kernel), _, rfl, iteT ?_⟩
          refine ⟨.int i, rfl, _, _, _, _, _, rfl, .ty _, .base (.int i), (show PySem.W.kitOne K (.type "int") (.type "bool") = some false from kit_ty (by decide +kernel)), _, rfl, _, rfl, iteT ?_⟩
          exact ⟨.int i, rfl, .int i, rfl, rfl, by rw [decide_eq_true rfl]; exact q H (Same.refl _)⟩
        | str z =>
          refine ⟨.str z, rfl, _, _, _, _, _, rfl, .ty _, .base (.str z), kit_ty (by decide +kernel), _, rfl, iteF ?_⟩
          refine ⟨.str z, rfl, _, _, _, _, _, rfl, .ty _, .base (.str z), kit_ty (by decide +kernel), _, rfl, iteF ?_⟩
          refine ⟨.str z, rfl, _, _, _, _, _, rfl, .ty _, .base (.str z), kit_ty (by decide +kernel), _, rfl, iteT ?_⟩
          refine ⟨.str z, rfl, _, _, _, _, _, rfl, .ty _, .base (.str z), kit_ty (by decide +kernel), _, rfl, iteT ?_⟩
          exact ⟨.str z, rfl, .str z, rfl, rfl, by rw [decide_eq_true rfl]; exact q H (Same.refl _)⟩
        | byt _ => cases hs
        | flt _ => cases hs
        | ref _ => cases hs
        | ty _ => cases hs
  | succ n ih =>
    obtain ⟨f, fd, F, m, G, b⟩ := ih.ex
    refine ⟨f, fd, F, m, ?_, b⟩
    have G2 : FnOk P w K mg base CX0 (n + 1 + 1) f fd P__law_alike (fun vs H Q _ => ∃ (a b : Addr) (xs ys : List V), vs = [.ref a, .ref b] ∧ ((H a = some (.lst xs) ∧ H b = some (.lst ys)) ∨ (H a = some (.tup xs) ∧ H b = some (.tup ys))) ∧ xs.length = ys.length ∧ ys.length ≤ 100000 ∧
        (∀ (i : Nat) (u v : V), xs[i]? = some u → ys[i]? = some v → Alk H n u v) ∧ ∀ H', Same H H' → Q (.bl true) H') := by
      refine F.ok sc__law_alike (fun vs H Q E h => ?_) (fun cdv AA outer s H vs Q E hr h => ?_)
      · obtain ⟨_, _, _, _, rfl, _⟩ := h
        rfl
      · obtain ⟨a, b', xs, ys, rfl, hab, hl, hz, hA, q⟩ := h
        have nd := sc__law_alike.nd
        have D__law_alike := ih
        refine ⟨_, (pss_cons (ps_if (pt_cmpR op_isN (pv 1) pe_non (nomark _)) (pss_one (ps_ret (pe_cmpR op_isN (pv 0) pe_non (nomark _)))) pss_nil)
    (pss_cons (ps_if (pt_val (pe_callB call_isi (by rfl) B.isinstance (by decide +kernel) (pa_cons (pv 1) (pa_cons (pe_bltn (by rfl) B.bool_ boot_bool (relTy _)) pa_nil)))) (pss_one (ps_ret (pe_and (pe_callB call_isi (by rfl) B.isinstance (by decide +kernel) (pa_cons (pv 0) (pa_cons (pe_bltn (by rfl) B.bool_ boot_bool (relTy _)) pa_nil))) (pe_one (pe_cmpR op_eq (pv 0) (pv 1) (nomark _)))))) pss_nil)
    (pss_cons (ps_if (pt_val (pe_callB call_isi (by rfl) B.isinstance (by decide +kernel) (pa_cons (pv 1) (pa_cons (pe_bltn (by rfl) B.int_ boot_int (relTy _)) pa_nil)))) (pss_one (ps_ret (pe_and (pe_callB call_isi (by rfl) B.isinstance (by decide +kernel) (pa_cons (pv 0) (pa_cons (pe_bltn (by rfl) B.int_ boot_int (relTy _)) pa_nil))) (pe_and (pe_not (pe_callB call_isi (by rfl) B.isinstance (by decide +kernel) (pa_cons (pv 0) (pa_cons (pe_bltn (by rfl) B.bool_ boot_bool (relTy _)) pa_nil)))) (pe_one (pe_cmpR op_eq (pv 0) (pv 1) (nomark _))))))) pss_nil)
    (pss_cons (ps_if (pt_val (pe_callB call_isi (by rfl) B.isinstance (by decide +kernel) (pa_cons (pv 1) (pa_cons (pe_bltn (by rfl) B.str_ boot_str (relTy _)) pa_nil)))) (pss_one (ps_ret (pe_and (pe_callB call_isi (by rfl) B.isinstance (by decide +kernel) (pa_cons (pv 0) (pa_cons (pe_bltn (by rfl) B.str_ boot_str (relTy _)) pa_nil))) (pe_one (pe_cmpR op_eq (pv 0) (pv 1) (nomark _)))))) pss_nil)
    (pss_cons (ps_if (PW.pt (pw_or (pt_cmpR op_ne (pe_callB call_isi (by rfl) B.isinstance (by decide +kernel) (pa_cons (pv 0) (pa_cons (pe_bltn (by rfl) B.list_ boot_list (relTy _)) pa_nil))) (pe_callB call_isi (by rfl) B.isinstance (by decide +kernel) (pa_cons (pv 1) (pa_cons (pe_bltn (by rfl) B.list_ boot_list (relTy _)) pa_nil))) (nomark _)) (pw_or1 (pt_cmpR op_ne (pe_callB call_isi (by rfl) B.isinstance (by decide +kernel) (pa_cons (pv 0) (pa_cons (pe_bltn (by rfl) B.tuple_ boot_tuple (relTy _)) pa_nil))) (pe_callB call_isi (by rfl) B.isinstance (by decide +kernel) (pa_cons (pv 1) (pa_cons (pe_bltn (by rfl) B.tuple_ boot_tuple (relTy _)) pa_nil))) (nomark _))))) (pss_one (ps_ret pe_bl)) pss_nil)
    (pss_cons (ps_if (pt_cmpR op_ne (pe_callB call_len_seq (by rfl) B.len PySem.boot_len (pa_cons (pv 0) pa_nil)) (pe_callB call_len_seq (by rfl) B.len PySem.boot_len (pa_cons (pv 1) pa_nil)) (nomark _)) (pss_one (ps_ret pe_bl)) pss_nil)
    (pss_cons (ps_for PassesOwn.never rfl (pi_range1 (by rfl) B.range (pa_cons (pe_callB call_len_seq (by rfl) B.len PySem.boot_len (pa_cons (pv 1) pa_nil)) pa_nil)) (pg_name (i := 2) nd rfl (.inl rfl)) (pss_one (ps_if (pt_not (pt_val (pe_df D__law_alike hr (by rfl) (pa_cons (pe_ix ix_seq (pv 0) (pv 2) (fun _ _ => rfl)) (pa_cons (pe_ix ix_seq (pv 1) (pv 2) (fun _ _ => rfl)) pa_nil))))) (pss_one (ps_ret pe_bl)) pss_nil)))
    (pss_one (ps_ret pe_bl))))))))), ?_⟩
        have sq : ∀ {H' : Hp}, Same H H' → (SqL K H' a xs ∨ SqT K H' a xs) ∧ (SqL K H' b' ys ∨ SqT K H' b' ys) := fun k => by
          rcases hab with ⟨h1, h2⟩ | ⟨h1, h2⟩
          · exact ⟨.inl (SqL.of (k _ _ h1)), .inl (SqL.of (k _ _ h2))⟩
          · exact ⟨.inr (SqT.of (k _ _ h1)), .inr (SqT.of (k _ _ h2))⟩
        -- none of the flat kinds
        have ty : ∃ T : String, TyX K H (.ref a) (.type T) ∧ TyX K H (.ref b') (.type T) ∧ (T = "list" ∨ T = "tuple") := by
          rcases hab with ⟨h1, h2⟩ | ⟨h1, h2⟩
          · exact ⟨"list", .base (.lst h1), .base (.lst h2), .inl rfl⟩
          · exact ⟨"tuple", .base (.tup h1), .base (.tup h2), .inr rfl⟩
        obtain ⟨T, t1, t2, hT⟩ := ty
        have nb : PySem.W.kitOne K (.type T) (.type "bool") = some false := by
          rcases hT with rfl | rfl
          · exact kit_ty (by decide +kernel)
          · exact kit_ty (by decide +kernel)
        have ni : PySem.W.kitOne K (.type T) (.type "int") = some false := by
          rcases hT with rfl | rfl
          · exact kit_ty (by decide +kernel)
          · exact kit_ty (by decide +kernel)
        have ns : PySem.W.kitOne K (.type T) (.type "str") = some false := by
          rcases hT with rfl | rfl
          · exact kit_ty (by decide +kernel)
          · exact kit_ty (by decide +kernel)
        obtain ⟨kl, hkl⟩ : ∃ k, PySem.W.kitOne K (.type T) (.type "list") = some k := by
          rcases hT with rfl | rfl
          · exact ⟨true, kit_ty (by decide +kernel)⟩
          · exact ⟨false, kit_ty (by decide +kernel)⟩
        obtain ⟨kt, hkt⟩ : ∃ k, PySem.W.kitOne K (.type T) (.type "tuple") = some k := by
          rcases hT with rfl | rfl
          · exact ⟨false, kit_ty (by decide +kernel)⟩
          · exact ⟨true, kit_ty (by decide +kernel)⟩
        refine ⟨.ref b', rfl, rfl, _, rfl, iteF ?_⟩
        refine ⟨.ref b', rfl, _, _, _, _, _, rfl, .ty _, t2, nb, _, rfl, iteF ?_⟩
        refine ⟨.ref b', rfl, _, _, _, _, _, rfl, .ty _, t2, ni, _, rfl, iteF ?_⟩
        refine ⟨.ref b', rfl, _, _, _, _, _, rfl, .ty _, t2, ns, _, rfl, iteF ?_⟩
        refine ⟨.ref a, rfl, _, _, _, _, _, rfl, .ty _, t1, hkl, .ref b', rfl, _, _, _, _, _, rfl, .ty _, t2, hkl, rfl, _, rfl, ?_⟩
        rw [decide_eq_true rfl]
        refine iteF ?_
        refine ⟨.ref a, rfl, _, _, _, _, _, rfl, .ty _, t1, hkt, .ref b', rfl, _, _, _, _, _, rfl, .ty _, t2, hkt, rfl, _, rfl, ?_⟩
        rw [decide_eq_true rfl]
        refine iteF ?_
        -- the lengths
        refine ⟨.ref a, rfl, a, _, rfl, (sq (Same.refl _)).1, .ref b', rfl, b', _, rfl, (sq (Same.refl _)).2, rfl, _, rfl, ?_⟩
        rw [hl, decide_eq_true rfl]
        refine iteF ?_
        -- the loop
        refine ⟨.ref b', rfl, b', _, rfl, (sq (Same.refl _)).2, _, rfl, by omega, by omega, ?_⟩
        refine for_it (walk_range (n := ys.length)) (fun i σ H2 => ∃ y2, σ = [some (.ref a), some (.ref b'), y2] ∧ Same H H2) ⟨none, rfl, Same.refl _⟩ (fun _ _ _ _ _ => trivial) (fun i x σ H2 H3 hi hW hY => ?_) (fun σ H2 hW => ?_)
        · obtain ⟨y2, rfl, sm⟩ := hW
          obtain ⟨rfl, rfl⟩ := hY
          obtain ⟨v, ev⟩ := at_some hi
          obtain ⟨u, eu⟩ := at_some (show i < xs.length by omega)
          have e0 : (0 : Int) + (i : Int) = (i : Int) := by omega
          have ix : ∀ {p : Addr} {zs : List V} {z : V} {Q' : VK}, (SqL K H3 p zs ∨ SqT K H3 p zs) → zs[i]? = some z → Q' z H3 → rIxL K (.ref p) (.int (0 + (i : Int))) H3 Q' ∨ rIxT K (.ref p) (.int (0 + (i : Int))) H3 Q' ∨ rIxS (.ref p) (.int (0 + (i : Int))) H3 Q' := fun {p zs z Q'} h e q => by
            rw [e0]
            rcases h with h | h
            · exact .inl ⟨p, zs, _, z, rfl, rfl, h, atI_nat e, q⟩
            · exact .inr (.inl ⟨p, zs, _, z, rfl, rfl, h, atI_nat e, q⟩)
          refine ⟨.ref a, rfl, _, rfl, ix (sq sm).1 eu ⟨.ref b', rfl, _, rfl, ix (sq sm).2 ev ⟨u, v, rfl, (hA i u v eu ev).keep sm, fun H4 s4 => ⟨_, rfl, iteF ⟨_, rfl, Same.trans sm s4⟩⟩⟩⟩⟩
        · obtain ⟨y2, rfl, sm⟩ := hW
          exact q H2 sm
    refine (FnOk.or (G.mono (Nat.le_succ _)) G2).imp (fun vs H Q E h => ?_)
    obtain ⟨x, y, rfl, hA, q⟩ := h
    rcases hA with ⟨h1, rfl⟩ | ⟨a, b', xs, ys, rfl, rfl, h1, h2, h3, h4⟩
    · exact .inl ⟨x, x, rfl, by cases n with | zero => exact ⟨h1, rfl⟩ | succ n => exact .inl ⟨h1, rfl⟩, q⟩
    · exact .inr ⟨a, b', xs, ys, rfl, h1, h2, h3, h4, q⟩
end
end El
namespace El
open PySem PySem.Spec PyProof.Rows L2
section
variable {P : Program} {w : World} {K : PySem.W.Frag} {mg : Str → Option Value} {base : Heap}
abbrev s__law_shuffled : Stmt := topS 22
abbrev N__law_shuffled : List Str := ["tray", "things", "left", "k"]
abbrev P__law_shuffled : List Str := ["tray", "things"]
theorem sc__law_shuffled : FnScope N__law_shuffled P__law_shuffled (defScope s__law_shuffled) := ⟨rfl, rfl, rfl, by decide +kernel, rfl, by decide +kernel, by decide +kernel⟩
def sp__law_shuffled (K : PySem.W.Frag) : Sp := fun vs H Q _ => ∃ (t g : Addr) (n : Nat) (a : Addr) (xs : List V), vs = [.ref t, .ref a] ∧ Tray H t g n ∧ SqL K H a xs ∧ xs.length ≤ 1000 ∧ n + xs.length ≤ 1000000000 ∧
  ∀ H' o ys, Kp (Off t g) H H' → Tray H' t g (n + xs.length) → H o = none → H' o = some (.lst ys) → ys.Perm xs → Q (.ref o) H'
theorem ok__law_shuffled (A : At K mg "_law_shuffled" P__law_shuffled s__law_shuffled) (B : Bi mg) (D__law_draw : Df P w K mg base 1 "_law_draw" P__law_draw s__law_draw sp__law_draw) :
    Df P w K mg base 2 "_law_shuffled" P__law_shuffled s__law_shuffled (sp__law_shuffled K) := by
  refine A.df fun f fd F => F.ok sc__law_shuffled (fun vs H Q E h => ?_) (fun cdv AA outer s H vs Q E hr h => ?_)
  · obtain ⟨_, _, _, _, _, rfl, _⟩ := h
    rfl
  · obtain ⟨t, g, n, a, xs, rfl, hT, hS, hl, hn, q⟩ := h
    have nd := sc__law_shuffled.nd
    refine ⟨_, (pss_cons (ps_set (i := 2) nd rfl (.inr rfl) (pe_callTy call_list_of (by rfl) B.list_ (by decide +kernel) (pa_cons (pv 1) pa_nil)))
    (pss_one (ps_ret (pe_lc (own := [("k", 3)]) (tt := tYes) rfl nd (pi_range1 (by rfl) B.range (pa_cons (pe_callB call_len_seq (by rfl) B.len PySem.boot_len (pa_cons (pv 2) pa_nil)) pa_nil)) (blkOk_by (N := N__law_shuffled) (sc := defScope s__law_shuffled) (by decide +kernel)) (fun _ _ _ _ _ => (pg_name (i := 3) nd rfl (.inl rfl))) (fun _ _ _ _ _ => pts_nil) (fun _ _ _ _ _ => (bmK K PySem.F.plainAttrs_list PySem.F.slot_list_pop PySem.F.type_list_pop mt_popAt (pv 2) (pa_cons (pe_df D__law_draw (hr.mono (by decide)) (by rfl) (pa_cons (pv 0) (pa_cons (pe_callB (lenK K) (by rfl) B.len PySem.boot_len (pa_cons (pv 2) pa_nil)) pa_nil))) pa_nil))))))), ?_⟩
    refine ⟨.ref a, rfl, a, xs, rfl, .inl hS, fun l nl => ?_⟩
    have el : upd H l (.lst xs) l = some (.lst xs) := upd_same
    have sl : Same H (upd H l (.lst xs)) := same_new nl
    refine ⟨.ref l, rfl, l, xs, rfl, .inl (SqL.of el), _, rfl, by omega, by omega, fun D nD => ?_⟩
    have nDl : l ≠ D := ne_of_none el nD
    have nD0 : H D = none := sl.free nD
    have ol : Off t g l := hT.off nl
    have oD : Off t g D := hT.off nD0
    refine lc_it (walk_range (n := xs.length)) (fun i H2 => ∃ ls acc, Kp (Off t g) H H2 ∧ H2 l = some (.lst ls) ∧ H2 D = some (.lst acc) ∧ (acc ++ ls).Perm xs ∧ ls.length + i = xs.length ∧ acc.length = i ∧ Tray H2 t g (n + i))
      ⟨xs, [], (Kp.of sl).trans (Kp.of (same_new nD)), by rw [upd_ne nDl]; exact el, upd_same, by simp, rfl, rfl, (hT.keep sl).keep (same_new nD)⟩ (fun _ _ _ _ => trivial) (fun i x H2 H3 hi hW hY => ?_) (fun H2 hW => ?_)
    · obtain ⟨ls, acc, kp, e1, e2, pm, hlen, ha, hT2⟩ := hW
      obtain ⟨rfl, rfl⟩ := hY
      have hm : (1 : Nat) ≤ ls.length := by omega
      refine ⟨rfl, .ref l, rfl, .inl ⟨rfl, _, SqL.of e1⟩, .ref t, rfl, .ref l, rfl, l, ls, rfl, .inl (SqL.of e1), t, g, n + i, _, rfl, hT2, by omega, by omega, ?_, fun H4 r k4 T4 r0 r1 => ?_⟩
      · exact Int.lt_of_lt_of_le (show (ls.length : Int) < 1001 by omega) (by decide)
      · obtain ⟨k, rfl⟩ : ∃ k : Nat, r = k := ⟨r.toNat, by omega⟩
        have hk : k < ls.length := by omega
        obtain ⟨y, ey⟩ := at_some hk
        have e1' := k4 _ _ ol e1
        have e2' := k4 _ _ oD e2
        refine ⟨l, ls, _, k, y, rfl, rfl, e1', by omega, by omega, seq_ix hk, ey, acc, by rw [upd_ne nDl.symm]; exact e2', ils (by omega), ls.eraseIdx k, acc ++ [y], ?_, ?_, upd_same, ?_, ?_, ?_, ?_⟩
        · exact (Kp.mutF (Kp.mutF (kp.trans k4) nl) nD0)
        · rw [upd_ne nDl, upd_same]
        · refine List.Perm.trans ?_ pm
          rw [List.append_assoc]
          exact List.Perm.append_left _ (erase_perm ey)
        · rw [List.length_eraseIdx_of_lt hk]
          omega
        · rw [List.length_append, ha]
          rfl
        · exact (T4.mut ol).mut oD
    · obtain ⟨ls, acc, kp, e1, e2, pm, hlen, ha, hT2⟩ := hW
      have : ls = [] := List.eq_nil_of_length_eq_zero (by omega)
      subst this
      rw [List.append_nil] at pm
      exact q H2 D acc kp hT2 nD0 e2 pm
end
end El
namespace El
open PySem PySem.Spec PyProof.Rows L2
section
variable {P : Program} {w : World} {K : PySem.W.Frag} {mg : Str → Option Value} {base : Heap}
abbrev s__law_ages : Stmt := topS 23
abbrev N__law_ages : List Str := ["tray", "many", "here", "far", "found", "k"]
abbrev P__law_ages : List Str := ["tray", "many"]
theorem sc__law_ages : FnScope N__law_ages P__law_ages (defScope s__law_ages) := ⟨rfl, rfl, rfl, by decide +kernel, rfl, by decide +kernel, by decide +kernel⟩
def sp__law_ages : Sp := fun vs H Q _ => ∃ (t g : Addr) (n many : Nat), vs = [.ref t, .int (many : Int)] ∧ Tray H t g n ∧ many ≤ 60 ∧ n ≤ 900000000 ∧
  ∀ H' o (ns : List Int), Kp (Off t g) H H' → Tray H' t g (n + 200) → H o = none → H' o = some (.lst (ns.map V.int)) → ns.length = many → ns.Nodup → (∀ x ∈ ns, Sm x) → Q (.ref o) H'
theorem ok__law_ages (A : At K mg "_law_ages" P__law_ages s__law_ages) (B : Bi mg) (D__law_draw : Df P w K mg base 1 "_law_draw" P__law_draw s__law_draw sp__law_draw)
    (D__law_shuffled : Df P w K mg base 2 "_law_shuffled" P__law_shuffled s__law_shuffled (sp__law_shuffled K)) : Df P w K mg base 3 "_law_ages" P__law_ages s__law_ages sp__law_ages := by
  refine A.df fun f fd F => F.ok sc__law_ages (fun vs H Q E h => ?_) (fun cdv AA outer s H vs Q E hr h => ?_)
  · obtain ⟨_, _, _, _, rfl, _⟩ := h
    rfl
  · obtain ⟨t, g, n, many, rfl, hT, hm, hn, q⟩ := h
    have nd := sc__law_ages.nd
    refine ⟨_, (pss_cons (ps_set (i := 2) nd rfl (.inl rfl) (pe_ix ix_list (pe_lst (pa_cons (pe_op op_sub (pe_df D__law_draw (hr.mono (by decide)) (by rfl) (pa_cons (pv 0) (pa_cons pe_int pa_nil))) pe_int) (pa_cons (pe_op op_sub (pe_df D__law_draw (hr.mono (by decide)) (by rfl) (pa_cons (pv 0) (pa_cons (pe_op op_pow pe_int pe_int) pa_nil))) (pe_op op_mul pe_int (pe_op op_pow pe_int pe_int))) pa_nil))) (pe_df D__law_draw (hr.mono (by decide)) (by rfl) (pa_cons (pv 0) (pa_cons pe_int pa_nil))) (fun _ _ => rfl)))
    (pss_cons (ps_set (i := 3) nd rfl (.inl rfl) (pe_ix ix_list (pe_lst (pa_cons pe_int (pa_cons pe_int (pa_cons (pe_op op_pow pe_int pe_int) pa_nil)))) (pe_df D__law_draw (hr.mono (by decide)) (by rfl) (pa_cons (pv 0) (pa_cons pe_int pa_nil))) (fun _ _ => rfl)))
    (pss_cons (ps_set (i := 4) nd rfl (.inl rfl) (pe_lst pa_nil))
    (pss_cons (ps_for PassesOwn.never rfl (pi_range1 (by rfl) B.range (pa_cons (pv 1) pa_nil)) (pg_name (i := 5) nd rfl (.inl rfl)) (pss_cons (ps_set (i := 2) nd rfl (.inl rfl) (pe_op op_add (pe_op op_add (pv 2) pe_int) (pe_df D__law_draw (hr.mono (by decide)) (by rfl) (pa_cons (pv 0) (pa_cons (pv 3) pa_nil))))) (pss_one (ps_expr (pe_bm PySem.F.plainAttrs_list PySem.F.slot_list_append PySem.F.type_list_append mt_append (pv 4) (pa_cons (pv 2) pa_nil))))))
    (pss_one (ps_ret (pe_df D__law_shuffled (hr.mono (by decide)) (by rfl) (pa_cons (pv 0) (pa_cons (pv 4) pa_nil))))))))), ?_⟩
    -- here
    refine ⟨.ref t, rfl, t, g, n, 30, rfl, hT, by omega, by decide, by decide, fun H1 r1 k1 T1 a1 b1 => ?_⟩
    refine ⟨_, _, rfl, rfl, .ref t, rfl, _, _, rfl, rfl, ⟨by decide, by decide, by decide⟩, t, g, n + 1, _, rfl, T1, by omega, by decide, by decide, fun H2 r2 k2 T2 a2 b2 => ?_⟩
    refine ⟨_, _, rfl, rfl, ⟨by decide, by decide, by decide⟩, _, _, rfl, rfl, .inl ⟨by decide, by decide⟩, _, _, rfl, rfl, (by show 2 ≤ sizeLine; decide), fun p np => ?_⟩
    have op : Off t g p := T2.off np
    refine ⟨.ref t, rfl, t, g, n + 2, 2, rfl, T2.mut op, by omega, by decide, by decide, fun H3 r3 k3 T3 a3 b3 => ?_⟩
    obtain ⟨v, hv, mv⟩ := at_pick (xs := [V.int (r1 - 15), .int (r2 - 5 * 10 ^ Int.toNat 28)]) a3 b3
    refine ⟨p, _, _, v, rfl, rfl, SqL.of (k3 _ _ op upd_same), hv, ?_⟩
    have kA : Kp (Off t g) H H3 := (k1.trans k2).trans ((Kp.of (same_new np)).trans k3)
    have e28 : (10 : Int) ^ Int.toNat 28 = 10000000000000000000000000000 := by decide
    have e29 : (10 : Int) ^ Int.toNat 29 = 100000000000000000000000000000 := by decide
    have e27 : (10 : Int) ^ Int.toNat 27 = 1000000000000000000000000000 := by decide
    rw [e29] at b2
    obtain ⟨here, rfl, hh0, hh1⟩ : ∃ i : Int, v = .int i ∧ -50000000000000000000000000000 ≤ i ∧ i ≤ 50000000000000000000000000000 := by
      rcases List.mem_cons.mp mv with e | mv
      · exact ⟨_, e, by omega, by omega⟩
      · exact ⟨_, List.mem_singleton.mp mv, by rw [e28]; omega, by rw [e28]; omega⟩
    -- far
    refine ⟨_, _, rfl, rfl, ⟨by decide, by decide, by decide⟩, (by show 3 ≤ sizeLine; decide), fun p' np' => ?_⟩
    have op' : Off t g p' := T3.off np'
    refine ⟨.ref t, rfl, t, g, n + 3, 3, rfl, T3.mut op', by omega, by decide, by decide, fun H4 r4 k4 T4 a4 b4 => ?_⟩
    obtain ⟨v, hv', mv'⟩ := at_pick (xs := [V.int 1, .int 9, .int (10 ^ Int.toNat 27)]) a4 b4
    refine ⟨p', _, _, v, rfl, rfl, SqL.of (k4 _ _ op' upd_same), hv', ?_⟩
    have kB : Kp (Off t g) H H4 := kA.trans ((Kp.of (same_new np')).trans k4)
    obtain ⟨far, rfl, f0, f1, f2⟩ : ∃ i : Int, v = .int i ∧ 0 < i ∧ i < 2 ^ 200 ∧ i ≤ 1000000000000000000000000000 := by
      rcases List.mem_cons.mp mv' with e | mv'
      · exact ⟨_, e, by decide, by decide, by decide⟩
      · rcases List.mem_cons.mp mv' with e | mv'
        · exact ⟨_, e, by decide, by decide, by decide⟩
        · exact ⟨_, List.mem_singleton.mp mv', by decide, by decide, by decide⟩
    -- found = []
    refine ⟨Nat.zero_le _, fun o no => ?_⟩
    have oo : Off t g o := T4.off no
    have no0 : H o = none := kB.none oo no
    -- the loop
    refine ⟨_, rfl, _, rfl, by omega, by omega, ?_⟩
    refine for_it (walk_range (n := ((many : Int)).toNat)) (fun i σ H5 => ∃ (h : Int) (ns : List Int) (y5 : Option V), σ = [some (.ref t), some (.int (many : Int)), some (.int h), some (.int far), some (.ref o), y5] ∧ Kp (Off t g) H H5 ∧ Tray H5 t g (n + 4 + i) ∧ H5 o = some (.lst (ns.map V.int)) ∧ ns.length = i ∧ ns.Pairwise (· < ·) ∧ (∀ x ∈ ns, x ≤ h) ∧ (∀ x ∈ ns, -50000000000000000000000000000 ≤ x) ∧ -50000000000000000000000000000 ≤ h ∧ h ≤ 50000000000000000000000000000 + (i : Int) * 1000000000000000000000000000)
      ⟨here, [], none, rfl, kB.new no, T4.mut oo, upd_same, rfl, List.Pairwise.nil, fun x h => absurd h (by simp), fun x h => absurd h (by simp), hh0, by omega⟩ (fun _ _ _ _ _ => trivial) (fun i x σ H5 H6 hi hW hY => ?_) (fun σ H5 hW => ?_)
    · obtain ⟨h, ns, y5, rfl, kp, T5, e5, hl, pw, hx, hlo, h0, h1⟩ := hW
      obtain ⟨rfl, rfl⟩ := hY
      have hi' : i < many := by omega
      refine ⟨.int h, rfl, _, _, rfl, rfl, .ref t, rfl, .int far, rfl, t, g, n + 4 + i, far, rfl, T5, by omega, f0, f1, fun H7 r7 k7 T7 a7 b7 => ?_⟩
      refine ⟨_, _, rfl, rfl, .ref o, rfl, .inl ⟨rfl, _, SqL.of (k7 _ _ oo e5)⟩, _, rfl, o, _, _, rfl, rfl, k7 _ _ oo e5, ils (by rw [List.length_map]; omega), ?_⟩
      refine ⟨h + 1 + r7, ns ++ [h + 1 + r7], _, rfl, Kp.mutF (kp.trans k7) no0, T7.mut oo, by rw [upd_same, List.map_append]; rfl, by rw [List.length_append, hl]; rfl, ?_, fun x m => ?_, fun x m => ?_, by omega, by omega⟩
      · rw [List.pairwise_append]
        refine ⟨pw, List.pairwise_singleton _ _, fun x m y my => ?_⟩
        rw [List.mem_singleton.mp my]
        have := hx x m
        omega
      · rcases List.mem_append.mp m with m | m
        · have := hx x m
          omega
        · rw [List.mem_singleton.mp m]
          exact Int.le_refl _
      · rcases List.mem_append.mp m with m | m
        · exact hlo x m
        · rw [List.mem_singleton.mp m]
          omega
    · obtain ⟨h, ns, y5, rfl, kp, T5, e5, hl, pw, hx, hlo, h0, h1⟩ := hW
      have hl' : ns.length = many := by omega
      refine ⟨.ref t, rfl, .ref o, rfl, t, g, _, o, _, rfl, T5, SqL.of e5, by rw [List.length_map]; omega, by rw [List.length_map]; omega, fun H8 o' ys k8 T8 no' e8 pm => ?_⟩
      obtain ⟨ms, rfl⟩ : ∃ ms : List Int, ys = ms.map V.int := by
        have : ∀ y ∈ ys, ∃ i, y = V.int i := fun y m => by
          obtain ⟨i, _, rfl⟩ := List.mem_map.mp (pm.mem_iff.mp m)
          exact ⟨i, rfl⟩
        clear pm e8
        induction ys with
        | nil => exact ⟨[], rfl⟩
        | cons y ys ih =>
          obtain ⟨i, rfl⟩ := this y List.mem_cons_self
          obtain ⟨ms, rfl⟩ := ih fun z m => this z (List.mem_cons_of_mem _ m)
          exact ⟨i :: ms, rfl⟩
      have pm' : ms.Perm ns := by
        have := pm.map (fun v : V => match v with | .int i => i | _ => 0)
        rw [List.map_map, List.map_map] at this
        simpa [Function.comp_def] using this
      have oo' : Off t g o' := T5.off no'
      refine q H8 o' ms (kp.trans k8) (T8.more (by rw [List.length_map]; omega)) (kp.none oo' no') e8 (by rw [pm'.length_eq, hl']) (pm'.nodup_iff.mpr (pw.imp fun h => Int.ne_of_lt h)) fun x m => ?_
      have m := pm'.mem_iff.mp m
      have x0 := hlo x m
      have x1 := hx x m
      have e30 : (10 : Nat) ^ 30 = 1000000000000000000000000000000 := by decide
      unfold Sm
      rw [e30]
      omega
end
end El
namespace El
open PySem PySem.Spec PyProof.Rows L2 SX
section
variable {X : Cx}
theorem sortIK (K : PySem.W.Frag) (e : X.K = K := by rfl) : CallR X (.builtin "sorted") (rSortedI K) := by
  subst e
  exact cr_sortedI
theorem pe_revLK (K : PySem.W.Frag) {e : Expr} {te : TE} {k : Nat} {p1 p2 p3 pos : Pos} (he : PE X e te) (eK : X.K = K := by rfl) : PE X (.Subscript e (.Slice none none (some (.UnaryOp .USub (.Constant (.int 1) k p1) p2)) p3) pos) (tRevL K te) := by
  subst eK
  exact pe_revL he
end
theorem flat_down : ∀ rs : List (List Int), (rs.map down).flatten.Perm rs.flatten
  | [] => .refl _
  | r :: rs => by
    rw [List.map_cons, List.flatten_cons, List.flatten_cons]
    exact (down_perm r).append (flat_down rs)
theorem down_falls {r : List Int} (h : r.Nodup) : (down r).Pairwise (· > ·) := by
  have h2 : (down r).Nodup := (down_perm r).nodup_iff.mpr h
  refine (List.pairwise_and_iff.mpr ⟨down_sorted r, h2⟩).imp fun {a b} h => ?_
  have h1 := h.1
  have h2 := h.2
  show b < a
  omega
theorem room_nodup {rs : List (List Int)} (h : rs.flatten.Nodup) : ∀ r ∈ rs, r.Nodup := (List.pairwise_flatten.mp h).1
theorem set_ne {rs : List (List Int)} {i : Nat} {r : List Int} (h : ∀ q ∈ rs, q ≠ []) (hr : r ≠ []) : ∀ q ∈ rs.set i r, q ≠ [] := fun q m => by
  rcases List.mem_or_eq_of_mem_set m with m | rfl
  · exact h q m
  · exact hr
theorem flat_setT : ∀ {rs : List (List Int)} {i : Nat} {r : List Int} (a : Int), rs[i]? = some r → (rs.set i (r ++ [a])).flatten.Perm (a :: rs.flatten)
  | [], _, _, _, e => by simp at e
  | s :: rs, 0, r, a, e => by
    obtain rfl : s = r := Option.some.inj e
    show ((s ++ [a]) :: rs).flatten.Perm _
    rw [List.flatten_cons, List.flatten_cons, List.append_assoc]
    exact List.perm_middle
  | s :: rs, i + 1, r, a, e => by
    show (s :: rs.set i (r ++ [a])).flatten.Perm _
    rw [List.flatten_cons, List.flatten_cons]
    exact ((flat_setT a (by simpa using e)).append_left s).trans List.perm_middle
end El
namespace El
open PySem PySem.Spec PyProof.Rows L2
section
variable {P : Program} {w : World} {K : PySem.W.Frag} {mg : Str → Option Value} {base : Heap}
abbrev s__law_line : Stmt := topS 26
abbrev N__law_line : List Str := ["tray", "most", "ages", "found", "age", "at", "room"]
abbrev P__law_line : List Str := ["tray", "most"]
theorem sc__law_line : FnScope N__law_line P__law_line (defScope s__law_line) := ⟨rfl, rfl, rfl, by decide +kernel, rfl, by decide +kernel, by decide +kernel⟩
def sp__law_line : Sp := fun vs H Q _ => ∃ (b g : Addr) (n most : Nat), vs = [.ref b, .int (most : Int)] ∧ Tray H b g n ∧ most ≤ 60 ∧ n ≤ 800000000 ∧
  ∀ H' o us rs, Kp (Off b g) H H' → Tray H' b g (n + 500) → RmsAt H' (fun z => H z = none) o us rs → Rml rs → (∀ r ∈ rs, r.Pairwise (· > ·)) → rs.flatten.Nodup → rs.flatten.length ≤ 60 → Q (.ref o) H'
theorem ok__law_line (A : At K mg "_law_line" P__law_line s__law_line) (B : Bi mg) (D__law_draw : Df P w K mg base 1 "_law_draw" P__law_draw s__law_draw sp__law_draw) (D__law_ages : Df P w K mg base 3 "_law_ages" P__law_ages s__law_ages sp__law_ages) : Df P w K mg base 4 "_law_line" P__law_line s__law_line sp__law_line := by
  refine A.df fun f fd F => F.ok sc__law_line (fun vs H Q E h => ?_) (fun cdv AA outer s H vs Q E hr h => ?_)
  · obtain ⟨_, _, _, _, rfl, _⟩ := h
    rfl
  · obtain ⟨b, g, n, most, rfl, hT, hmo, hn, q⟩ := h
    have nd := sc__law_line.nd
    refine ⟨_, (pss_cons (ps_set (i := 2) nd rfl (.inl rfl) (pe_df D__law_ages (hr.mono (by decide)) (by rfl) (pa_cons (pv 0) (pa_cons (pe_df D__law_draw (hr.mono (by decide)) (by rfl) (pa_cons (pv 0) (pa_cons (pe_op op_add (pv 1) pe_int) pa_nil))) pa_nil))))
    (pss_cons (ps_set (i := 3) nd rfl (.inl rfl) (pe_lst pa_nil))
    (pss_cons (ps_for PassesOwn.never rfl (pi_list (pv 2)) (pg_name (i := 4) nd rfl (.inl rfl)) (pss_cons (ps_set (i := 5) nd rfl (.inl rfl) (pe_df D__law_draw (hr.mono (by decide)) (by rfl) (pa_cons (pv 0) (pa_cons (pe_op op_add (pe_callB call_len_seq (by rfl) B.len PySem.boot_len (pa_cons (pv 3) pa_nil)) pe_int) pa_nil)))) (pss_cons (ps_if (pt_cmpR op_eq (pv 5) (pe_callB call_len_seq (by rfl) B.len PySem.boot_len (pa_cons (pv 3) pa_nil)) (nomark _)) (pss_one (ps_expr (pe_bm PySem.F.plainAttrs_list PySem.F.slot_list_append PySem.F.type_list_append mt_append (pv 3) (pa_cons (pe_lst pa_nil) pa_nil)))) pss_nil) (pss_one (ps_expr (pe_bm PySem.F.plainAttrs_list PySem.F.slot_list_append PySem.F.type_list_append mt_append (pe_ix ix_list (pv 3) (pv 5) (fun _ _ => rfl)) (pa_cons (pv 4) pa_nil)))))))
    (pss_one (ps_ret (pe_lc (own := [("room", 6)]) (tt := tYes) rfl nd (pi_list (pv 3)) (blkOk_by (N := N__law_line) (sc := defScope s__law_line) (by decide +kernel)) (fun _ _ _ _ _ => (pg_name (i := 6) nd rfl (.inl rfl))) (fun _ _ _ _ _ => pts_nil) (fun _ _ _ _ _ => (pe_revLK K (pe_callB (sortIK K) (by rfl) B.sorted (by decide +kernel) (pa_cons (pv 6) pa_nil)))))))))), ?_⟩
    refine ⟨.ref b, rfl, .ref b, rfl, .int (most : Int), rfl, _, _, rfl, rfl, b, g, n, _, rfl, hT, by omega, by omega, ?_, fun H1 r1 k1 T1 a1 b1 => ?_⟩
    · exact Int.lt_of_le_of_lt (show (most : Int) + 1 ≤ 61 by omega) (by decide)
    obtain ⟨many, rfl⟩ : ∃ m : Nat, r1 = (m : Int) := ⟨r1.toNat, by omega⟩
    refine ⟨b, g, n + 1, many, rfl, T1, by omega, by omega, fun H2 ao ns k2 T2 nao eao hnl hnd hsm => ?_⟩
    -- found
    refine ⟨Nat.zero_le _, fun o no => ?_⟩
    have oo : Off b g o := T2.off no
    have oao : Off b g ao := T1.off nao
    have aon : ao ≠ o := ne_of_none eao no
    have kA : Kp (Off b g) H H2 := k1.trans k2
    have nH : ∀ z, H2 z = none → H z = none := fun z hz => kA.none (T2.off hz) hz
    have k3 : Kp (Liv H2 (Off b g)) H2 (upd H2 o (.lst [])) := Kp.of (same_new no)
    have T3 : Tray (upd H2 o (.lst [])) b g (n + 201) := T2.mut oo
    have R3 : RmsAt (upd H2 o (.lst [])) (fun z => H2 z = none) o [] [] := RmsAt.nil upd_same no
    generalize upd H2 o (.lst []) = H3 at k3 T3 R3 ⊢
    have la : Liv H2 (Off b g) ao := Liv.of eao oao
    refine ⟨.ref ao, rfl, ao, rfl, ⟨_, SqL.of (k3 _ _ la eao)⟩, ?_⟩
    refine for_it (walk_list (xs := ns.map V.int)) (fun i σ H4 => ∃ us rs y4 y5, σ = [some (.ref b), some (.int (most : Int)), some (.ref ao), some (.ref o), y4, y5, none] ∧ Kp (Liv H2 (Off b g)) H2 H4 ∧ Tray H4 b g (n + 201 + i) ∧ RmsAt H4 (fun z => H2 z = none) o us rs ∧ (∀ r ∈ rs, r ≠ []) ∧ rs.flatten.Perm (ns.take i))
      ⟨[], [], none, none, rfl, k3, T3, R3, fun r m => by simp at m, .refl _⟩ (fun i σ H4 _ hW => ?_) (fun i x σ H4 H5 hi hW hY => ?_) (fun σ H4 hW => ?_)
    · obtain ⟨_, _, _, _, _, kp, _⟩ := hW
      exact SqL.of (kp _ _ la eao)
    · obtain ⟨us, rs, y4, y5, rfl, kp, T4, hR, hne, hpm⟩ := hW
      obtain ⟨rfl, hx⟩ := hY
      obtain ⟨a, ea, rfl⟩ := ints_at hx
      rw [List.length_map] at hi
      have hfl : rs.flatten.length ≤ 60 := by
        rw [hpm.length_eq, List.length_take]
        omega
      have hrl : rs.length ≤ 60 := Nat.le_trans (len_flat hne) hfl
      have offN : ∀ z, H2 z = none → Off b g z := fun z hz => T2.off hz
      refine ⟨.ref b, rfl, .ref o, rfl, o, _, rfl, .inl hR.seq, _, _, rfl, rfl, b, g, _, _, rfl, T4, by omega, by omega, ?_, fun H6 r6 k6 T6 a6 b6 => ?_⟩
      · rw [List.length_map, hR.len]
        exact Int.lt_of_le_of_lt (show (rs.length : Int) + 1 ≤ 61 by omega) (by decide)
      rw [List.length_map, hR.len] at b6
      obtain ⟨at', rfl⟩ : ∃ m : Nat, r6 = (m : Int) := ⟨r6.toNat, by omega⟩
      have hR6 : RmsAt H6 (fun z => H2 z = none) o us rs := hR.keep fun z x hz e => k6 z x (offN z hz) e
      have kp6 : Kp (Liv H2 (Off b g)) H2 H6 := kp.trans k6.liv
      -- the room grows
      have fin : ∀ {H7 : Hp} {us' : List Addr} {rs' : List (List Int)} {t : Addr} {r : List Int}, Kp (Liv H2 (Off b g)) H2 H7 → Tray H7 b g (n + 201 + i + 1) → RmsAt H7 (fun z => H2 z = none) o us' rs' → us'[at']? = some t → (∀ q ∈ rs'.set at' (r ++ [a]), q ≠ []) → (rs'.set at' (r ++ [a])).flatten.Perm (a :: rs.flatten) →
          ∃ us rs y4 y5, [some (V.ref b), some (.int (most : Int)), some (.ref ao), some (.ref o), some (.int a), some (.int (at' : Int)), none] = [some (V.ref b), some (.int (most : Int)), some (.ref ao), some (.ref o), y4, y5, none] ∧ Kp (Liv H2 (Off b g)) H2 (upd H7 t (.lst (r.map V.int ++ [.int a]))) ∧ Tray (upd H7 t (.lst (r.map V.int ++ [.int a]))) b g (n + 201 + (i + 1)) ∧ RmsAt (upd H7 t (.lst (r.map V.int ++ [.int a]))) (fun z => H2 z = none) o us rs ∧ (∀ r ∈ rs, r ≠ []) ∧ rs.flatten.Perm (ns.take (i + 1)) := by
        intro H7 us' rs' t r k7 T7 hR7 et hne' hp'
        have nt := hR7.b t (List.mem_of_getElem? et)
        refine ⟨us', rs'.set at' (r ++ [a]), _, _, rfl, k7.mut (Liv.no nt), (T7.mut (offN t nt)).more (by omega), ?_, hne', ?_⟩
        · have z := hR7.set et (r ++ [a])
          rw [List.map_append] at z
          exact z
        · rw [take_snoc ea]
          exact hp'.trans ((List.Perm.cons a hpm).trans (List.perm_append_singleton a _).symm)
      refine ⟨_, rfl, .ref o, rfl, o, _, rfl, .inl hR6.seq, rfl, _, rfl, ite2 (fun e => ?_) (fun e => ?_)⟩
      · have e := V.int.inj (of_decide_eq_true e)
        rw [List.length_map, hR.len] at e
        have e : at' = rs.length := by omega
        refine ⟨.ref o, rfl, .inl ⟨rfl, _, hR6.seq⟩, Nat.zero_le _, fun u nu => ?_⟩
        have nuo : o ≠ u := ne_of_none hR6.top nu
        refine ⟨o, _, _, rfl, rfl, (by rw [upd_ne nuo]; exact hR6.top), ils (by rw [List.length_map, hR.len]; omega), ?_⟩
        have ou : Off b g u := T6.off nu
        have nu2 : H2 u = none := by
          cases e2 : H2 u with
          | none => rfl
          | some x => exact absurd (kp6 _ _ (Liv.of e2 ou) e2) (by rw [nu]; simp)
        have hR7 := hR6.push (r := []) nu nu2
        have k7 : Kp (Liv H2 (Off b g)) H2 (upd (upd H6 u (.lst [])) o (.lst (us.map V.ref ++ [.ref u]))) := (kp6.mut (Liv.no nu2)).mut (Liv.no no)
        have T7 : Tray (upd (upd H6 u (.lst [])) o (.lst (us.map V.ref ++ [.ref u]))) b g (n + 201 + i + 1) := (T6.mut ou).mut oo
        have et : (us ++ [u])[at']? = some u := by
          rw [e, ← hR.len, List.getElem?_append_right (Nat.le_refl _), Nat.sub_self]
          rfl
        have er : (rs ++ [[]])[at']? = some [] := by
          rw [e, List.getElem?_append_right (Nat.le_refl _), Nat.sub_self]
          rfl
        have eu := hR7.at' _ _ _ et er
        refine ⟨.ref o, rfl, _, rfl, o, _, _, .ref u, rfl, rfl, SqL.of (by rw [upd_same]), atI_nat (j := at') ?_, .inl ⟨rfl, _, SqL.of eu⟩, .int a, rfl, u, _, _, rfl, rfl, eu, ils (Nat.zero_le _), ?_⟩
        · have z := congrArg (Option.map V.ref) et
          rw [← List.getElem?_map, List.map_append] at z
          exact z
        · have es : (rs ++ [[]]).set at' ([] ++ [a]) = rs ++ [[a]] := by
            rw [e, List.set_append_right _ _ (Nat.le_refl _), Nat.sub_self]
            rfl
          refine fin (r := []) k7 T7 hR7 et ?_ ?_
          · rw [es]
            intro q m
            rcases List.mem_append.mp m with m | m
            · exact hne q m
            · rw [List.mem_singleton.mp m]
              simp
          · rw [es, List.flatten_append]
            exact List.perm_append_singleton a _
      · have e' : ¬ ((at' : Int) = ((rs.length : Nat) : Int)) := fun z => e (decide_eq_true (by rw [List.length_map, hR.len, z]))
        have hlt : at' < rs.length := by omega
        obtain ⟨r, er⟩ := at_some hlt
        obtain ⟨t, et⟩ := at_some (show at' < us.length by rw [hR.len]; exact hlt)
        have etr := hR6.at' _ _ _ et er
        refine ⟨.ref o, rfl, _, rfl, o, _, _, .ref t, rfl, rfl, hR6.seq, atI_nat (j := at') (by rw [List.getElem?_map, et]; rfl), .inl ⟨rfl, _, SqL.of etr⟩, .int a, rfl, t, _, _, rfl, rfl, etr, ils (by rw [List.length_map]; have := room_few (List.mem_of_getElem? er); omega), ?_⟩
        exact fin kp6 T6 hR6 et (set_ne hne (by simp)) (flat_setT a er)
    · obtain ⟨us, rs, y4, y5, rfl, kp, T4, hR, hne, hpm⟩ := hW
      rw [List.length_map, List.take_length] at hpm
      have hfl : rs.flatten.length ≤ 60 := by
        rw [hpm.length_eq]
        omega
      have hrl : rs.length ≤ 60 := Nat.le_trans (len_flat hne) hfl
      refine ⟨.ref o, rfl, o, rfl, ⟨_, hR.seq⟩, fun D nD => ?_⟩
      have oD : Off b g D := T4.off nD
      have kpH : ∀ {H5 : Hp}, Same H4 H5 → Kp (Off b g) H H5 := fun s5 z x oz e => s5 _ _ (kp _ _ (Liv.of (kA _ _ oz e) oz) (kA _ _ oz e))
      refine lc_it (walk_list (xs := us.map V.ref)) (fun k H5 => Same H4 H5 ∧ ∃ lts, RmsAt H5 (fun z => H4 z = none) D lts ((rs.take k).map down)) ⟨same_new nD, [], RmsAt.nil upd_same nD⟩ (fun k H5 _ hW => ?_) (fun k x H5 H6 hk hW hY => ?_) (fun H5 hW => ?_)
      · exact (hR.same hW.1).seq
      · obtain ⟨sm, lts, hL⟩ := hW
        obtain ⟨rfl, hx⟩ := hY
        obtain ⟨t, r, rfl, _, er, et⟩ := (hR.same sm).get hx
        refine ⟨rfl, .ref t, rfl, t, r, rfl, SqL.of et, fun ms p pm ps np => ?_⟩
        refine ⟨p, ms.map V.int, rfl, SqL.of upd_same, fun p2 np2 => ?_⟩
        have s1 := same_new (o := .lst (ms.map V.int)) np
        have em : (ms.map V.int).reverse = (down r).map V.int := by
          rw [← List.map_reverse, ← down_is ((List.reverse_perm ms).trans pm) (List.pairwise_reverse.mpr ps)]
        rw [em]
        have hL1 := hL.same s1
        have np2D : D ≠ p2 := ne_of_none hL1.top np2
        refine ⟨_, by rw [upd_ne np2D]; exact hL1.top, ils (by rw [List.length_map, hL.len, List.length_map, List.length_take]; omega), Same.mut ((sm.trans s1).trans (same_new np2)) nD, lts ++ [p2], ?_⟩
        rw [take_snoc er, List.map_append]
        exact hL1.push np2 ((sm.trans s1).free np2)
      · obtain ⟨sm, lts, hL⟩ := hW
        rw [List.length_map, hR.len, List.take_length] at hL
        have hfd := flat_down rs
        have hndf : (rs.map down).flatten.Nodup := hfd.nodup_iff.mpr (hpm.nodup_iff.mpr hnd)
        refine q H5 D lts (rs.map down) (kpH sm) ((T4.keep sm).more (by rw [List.length_map]; omega)) (hL.weaken fun z hz => ?_) ⟨fun r m i mi => ?_, fun r m => ?_, by rw [hfd.length_eq]; omega⟩ (fun r m => ?_) hndf (by rw [hfd.length_eq]; exact hfl)
        · exact (kpH (Same.refl _)).none (T4.off hz) hz
        · have : i ∈ (rs.map down).flatten := List.mem_flatten.mpr ⟨r, m, mi⟩
          exact hsm i (hpm.mem_iff.mp (hfd.mem_iff.mp this))
        · obtain ⟨r', m', rfl⟩ := List.mem_map.mp m
          intro z
          have := (down_perm r').length_eq
          rw [z] at this
          exact hne r' m' (List.length_eq_zero_iff.mp this.symm)
        · obtain ⟨r', m', rfl⟩ := List.mem_map.mp m
          exact down_falls (room_nodup (hpm.nodup_iff.mpr hnd) r' m')
end
end El
namespace El
open PySem PySem.Spec PyProof.Rows L2
section
variable {P : Program} {w : World} {K : PySem.W.Frag} {mg : Str → Option Value} {base : Heap}
abbrev s__law_patience : Stmt := topS 24
abbrev N__law_patience : List Str := ["tray", "lot", "many", "some"]
abbrev P__law_patience : List Str := ["tray", "lot", "many"]
theorem sc__law_patience : FnScope N__law_patience P__law_patience (defScope s__law_patience) := ⟨rfl, rfl, rfl, by decide +kernel, rfl, by decide +kernel, by decide +kernel⟩
def sp__law_patience : Sp := fun vs H Q _ => ∃ (t g : Addr) (n many : Nat) (lot : Int), vs = [.ref t, .int lot, .int (many : Int)] ∧ Tray H t g n ∧ many ≤ 60 ∧ n ≤ 900000000 ∧ 0 ≤ lot ∧ lot ≤ 5 ∧
  ∀ H' (p : Int), Kp (Off t g) H H' → Tray H' t g (n + 5) → 0 ≤ p → p < 10 ^ 30 → Q (.int p) H'
theorem ok__law_patience (A : At K mg "_law_patience" P__law_patience s__law_patience) (B : Bi mg) (D__law_draw : Df P w K mg base 1 "_law_draw" P__law_draw s__law_draw sp__law_draw) : Df P w K mg base 2 "_law_patience" P__law_patience s__law_patience sp__law_patience := by
  refine A.df fun f fd F => F.ok sc__law_patience (fun vs H Q E h => ?_) (fun cdv AA outer s H vs Q E hr h => ?_)
  · obtain ⟨_, _, _, _, _, rfl, _⟩ := h
    rfl
  · obtain ⟨t, g, n, many, lot, rfl, hT, hm, hn, l0, l5, q⟩ := h
    have nd := sc__law_patience.nd
    refine ⟨_, (pss_cons (ps_set (i := 3) nd rfl (.inl rfl) (pe_lst (pa_cons pe_int (pa_cons (pe_df D__law_draw (hr.mono (by decide)) (by rfl) (pa_cons (pv 0) (pa_cons pe_int pa_nil))) (pa_cons (pe_df D__law_draw (hr.mono (by decide)) (by rfl) (pa_cons (pv 0) (pa_cons pe_int pa_nil))) (pa_cons (pe_df D__law_draw (hr.mono (by decide)) (by rfl) (pa_cons (pv 0) (pa_cons (pe_op op_add (pv 2) pe_int) pa_nil))) (pa_cons (pe_op op_sub (pe_op op_sub (pe_op op_pow pe_int pe_int) pe_int) (pe_df D__law_draw (hr.mono (by decide)) (by rfl) (pa_cons (pv 0) (pa_cons pe_int pa_nil)))) pa_nil)))))))
    (pss_one (ps_ret (pe_ix ix_list (pv 3) (pe_ifExp (pt_cmpR op_lt (pv 1) pe_int (nomark _)) (pv 1) (pe_ix ix_list (pe_lst (pa_cons pe_int (pa_cons pe_int (pa_cons pe_int (pa_cons pe_int (pa_cons pe_int (pa_cons pe_int pa_nil))))))) (pe_df D__law_draw (hr.mono (by decide)) (by rfl) (pa_cons (pv 0) (pa_cons pe_int pa_nil))) (fun _ _ => rfl))) (fun _ _ => rfl))))), ?_⟩
    refine ⟨.ref t, rfl, t, g, n, 3, rfl, hT, by omega, by decide, by decide, fun H1 r1 k1 T1 a1 b1 => ?_⟩
    refine ⟨.ref t, rfl, t, g, n + 1, 8, rfl, T1, by omega, by decide, by decide, fun H2 r2 k2 T2 a2 b2 => ?_⟩
    refine ⟨.ref t, rfl, _, rfl, _, _, rfl, rfl, t, g, n + 2, _, rfl, T2, by omega, by omega, ?_, fun H3 r3 k3 T3 a3 b3 => ?_⟩
    · exact Int.lt_of_le_of_lt (show (many : Int) + 2 ≤ 62 by omega) (by decide)
    · refine ⟨_, _, rfl, rfl, ⟨by decide, by decide, by decide⟩, _, _, rfl, rfl, .ref t, rfl, t, g, n + 3, 9, rfl, T3, by omega, by decide, by decide, fun H4 r4 k4 T4 a4 b4 => ?_⟩
      refine ⟨_, _, rfl, rfl, (by show 5 ≤ sizeLine; decide), fun p np => ?_⟩
      have op : Off t g p := T4.off np
      have kA : Kp (Off t g) H (upd H4 p (.lst [.int 0, .int r1, .int r2, .int r3, .int (10 ^ Int.toNat 30 - 1 - r4)])) := (((k1.trans k2).trans k3).trans k4).new np
      have TA := T4.mut (o := .lst [.int 0, .int r1, .int r2, .int r3, .int (10 ^ Int.toNat 30 - 1 - r4)]) op
      have eA : upd H4 p (.lst [.int 0, .int r1, .int r2, .int r3, .int (10 ^ Int.toNat 30 - 1 - r4)]) p = some (.lst [.int 0, .int r1, .int r2, .int r3, .int (10 ^ Int.toNat 30 - 1 - r4)]) := upd_same
      have fin : ∀ {H5 : Hp} {i : Int}, 0 ≤ i → i < 5 → Kp (Off t g) H H5 → Tray H5 t g (n + 5) → H5 p = some (.lst [.int 0, .int r1, .int r2, .int r3, .int (10 ^ Int.toNat 30 - 1 - r4)]) → rIxL K (.ref p) (.int i) H5 Q := by
        intro H5 i i0 i5 k5 T5 e5
        obtain ⟨v, hv, mv⟩ := at_pick (xs := [V.int 0, .int r1, .int r2, .int r3, .int (10 ^ Int.toNat 30 - 1 - r4)]) i0 i5
        refine ⟨p, _, _, v, rfl, rfl, SqL.of e5, hv, ?_⟩
        have e30' : (10 : Int) ^ 30 = 1000000000000000000000000000000 := by decide
        have e30 : (10 : Int) ^ Int.toNat 30 = 1000000000000000000000000000000 := by decide
        rcases List.mem_cons.mp mv with rfl | mv
        · exact q _ _ k5 T5 (by decide) (by decide)
        rcases List.mem_cons.mp mv with rfl | mv
        · exact q _ _ k5 T5 a1 (by rw [e30']; omega)
        rcases List.mem_cons.mp mv with rfl | mv
        · exact q _ _ k5 T5 a2 (by rw [e30']; omega)
        rcases List.mem_cons.mp mv with rfl | mv
        · exact q _ _ k5 T5 a3 (by rw [e30']; omega)
        rw [List.mem_singleton.mp mv]
        exact q _ _ k5 T5 (by omega) (by rw [e30']; omega)
      refine ⟨.ref p, rfl, .int lot, rfl, _, _, rfl, rfl, _, rfl, ite2 (fun e => ?_) (fun e => ?_)⟩
      · have e : lot < 5 := of_decide_eq_true e
        exact ⟨.int lot, rfl, fin l0 e kA (TA.more (Nat.le_succ _)) eA⟩
      · refine ⟨(by show 6 ≤ sizeLine; decide), fun p' np' => ?_⟩
        have op' : Off t g p' := TA.off np'
        refine ⟨.ref t, rfl, t, g, n + 4, 6, rfl, TA.mut op', by omega, by decide, by decide, fun H6 r6 k6 T6 a6 b6 => ?_⟩
        obtain ⟨v, hv, mv⟩ := at_pick (xs := [V.int 1, .int 1, .int 2, .int 3, .int 4, .int 0]) a6 b6
        refine ⟨p', _, _, v, rfl, rfl, SqL.of (k6 _ _ op' upd_same), hv, ?_⟩
        have k7 : Kp (Off t g) H H6 := kA.trans ((Kp.of (same_new np')).trans k6)
        have e7 := k6 _ _ op (by rw [upd_ne (no_of eA np').symm]; exact eA)
        have mv' : ∃ i : Int, v = .int i ∧ 0 ≤ i ∧ i < 5 := by
          rcases List.mem_cons.mp mv with rfl | mv
          · exact ⟨_, rfl, by decide, by decide⟩
          rcases List.mem_cons.mp mv with rfl | mv
          · exact ⟨_, rfl, by decide, by decide⟩
          rcases List.mem_cons.mp mv with rfl | mv
          · exact ⟨_, rfl, by decide, by decide⟩
          rcases List.mem_cons.mp mv with rfl | mv
          · exact ⟨_, rfl, by decide, by decide⟩
          rcases List.mem_cons.mp mv with rfl | mv
          · exact ⟨_, rfl, by decide, by decide⟩
          rw [List.mem_singleton.mp mv]
          exact ⟨_, rfl, by decide, by decide⟩
        obtain ⟨i, rfl, i0, i5⟩ := mv'
        exact fin i0 i5 k7 T6 e7
end
end El
namespace El
open PySem PySem.Spec PyProof.Rows L2
section
variable {P : Program} {w : World} {K : PySem.W.Frag} {mg : Str → Option Value} {base : Heap}
abbrev s__law_guests : Stmt := topS 25
abbrev N__law_guests : List Str := ["tray", "most", "many", "lot", "age"]
abbrev P__law_guests : List Str := ["tray", "most"]
theorem sc__law_guests : FnScope N__law_guests P__law_guests (defScope s__law_guests) := ⟨rfl, rfl, rfl, by decide +kernel, rfl, by decide +kernel, by decide +kernel⟩
def sp__law_guests : Sp := fun vs H Q _ => ∃ (t g : Addr) (n most : Nat), vs = [.ref t, .int (most : Int)] ∧ Tray H t g n ∧ most ≤ 60 ∧ n ≤ 800000000 ∧
  ∀ H' o ts gs, Kp (Off t g) H H' → Tray H' t g (n + 600) → GsAt H' (fun b => H b = none) o ts gs → o ∉ ts → Fit gs → gs.length ≤ most → Sms gs → Q (.ref o) H'
theorem ok__law_guests (A : At K mg "_law_guests" P__law_guests s__law_guests) (B : Bi mg) (D__law_draw : Df P w K mg base 1 "_law_draw" P__law_draw s__law_draw sp__law_draw)
    (D__law_ages : Df P w K mg base 3 "_law_ages" P__law_ages s__law_ages sp__law_ages) (D__law_patience : Df P w K mg base 2 "_law_patience" P__law_patience s__law_patience sp__law_patience) : Df P w K mg base 4 "_law_guests" P__law_guests s__law_guests sp__law_guests := by
  refine A.df fun f fd F => F.ok sc__law_guests (fun vs H Q E h => ?_) (fun cdv AA outer s H vs Q E hr h => ?_)
  · obtain ⟨_, _, _, _, rfl, _⟩ := h
    rfl
  · obtain ⟨t, g, n, most, rfl, hT, hm, hn, q⟩ := h
    have nd := sc__law_guests.nd
    refine ⟨_, (pss_cons (ps_set (i := 2) nd rfl (.inr rfl) (pe_df D__law_draw (hr.mono (by decide)) (by rfl) (pa_cons (pv 0) (pa_cons (pe_op op_add (pv 1) pe_int) pa_nil))))
    (pss_cons (ps_set (i := 3) nd rfl (.inr rfl) (pe_ix ix_list (pe_lst (pa_cons pe_int (pa_cons pe_int (pa_cons pe_int (pa_cons pe_int (pa_cons pe_int (pa_cons pe_int (pa_cons pe_int (pa_cons pe_int pa_nil))))))))) (pe_df D__law_draw (hr.mono (by decide)) (by rfl) (pa_cons (pv 0) (pa_cons pe_int pa_nil))) (fun _ _ => rfl)))
    (pss_one (ps_ret (pe_lc (own := [("age", 4)]) (tt := tYes) rfl nd (pi_list (pe_df D__law_ages (hr.mono (by decide)) (by rfl) (pa_cons (pv 0) (pa_cons (pv 2) pa_nil)))) (blkOk_by (N := N__law_guests) (sc := defScope s__law_guests) (by decide +kernel)) (fun _ _ _ _ _ => (pg_name (i := 4) nd rfl (.inl rfl))) (fun _ _ _ _ _ => pts_nil) (fun _ _ _ _ _ => (pe_tup (pa_cons (pv 4) (pa_cons (pe_df D__law_patience (hr.mono (by decide)) (by rfl) (pa_cons (pv 0) (pa_cons (pv 3) (pa_cons (pv 2) pa_nil)))) pa_nil))))))))), ?_⟩
    refine ⟨.ref t, rfl, _, rfl, _, _, rfl, rfl, t, g, n, _, rfl, hT, by omega, by omega, ?_, fun H1 r1 k1 T1 a1 b1 => ?_⟩
    · exact Int.lt_of_le_of_lt (show (most : Int) + 1 ≤ 61 by omega) (by decide)
    obtain ⟨many, rfl⟩ : ∃ k : Nat, r1 = k := ⟨r1.toNat, by omega⟩
    have hmany : many ≤ most := by omega
    -- lot
    refine ⟨(by show 8 ≤ sizeLine; decide), fun p np => ?_⟩
    have op : Off t g p := T1.off np
    refine ⟨.ref t, rfl, t, g, n + 1, 8, rfl, T1.mut op, by omega, by decide, by decide, fun H2 r2 k2 T2 a2 b2 => ?_⟩
    obtain ⟨v, hv, mv⟩ := at_pick (xs := [V.int 0, .int 1, .int 2, .int 3, .int 4, .int 5, .int 5, .int 5]) a2 b2
    refine ⟨p, _, _, v, rfl, rfl, SqL.of (k2 _ _ op upd_same), hv, ?_⟩
    have mv' : ∃ i : Int, v = .int i ∧ 0 ≤ i ∧ i ≤ 5 := by
      rcases List.mem_cons.mp mv with rfl | mv
      · exact ⟨_, rfl, by decide, by decide⟩
      rcases List.mem_cons.mp mv with rfl | mv
      · exact ⟨_, rfl, by decide, by decide⟩
      rcases List.mem_cons.mp mv with rfl | mv
      · exact ⟨_, rfl, by decide, by decide⟩
      rcases List.mem_cons.mp mv with rfl | mv
      · exact ⟨_, rfl, by decide, by decide⟩
      rcases List.mem_cons.mp mv with rfl | mv
      · exact ⟨_, rfl, by decide, by decide⟩
      rcases List.mem_cons.mp mv with rfl | mv
      · exact ⟨_, rfl, by decide, by decide⟩
      rcases List.mem_cons.mp mv with rfl | mv
      · exact ⟨_, rfl, by decide, by decide⟩
      rw [List.mem_singleton.mp mv]
      exact ⟨_, rfl, by decide, by decide⟩
    obtain ⟨lot, rfl, l0, l5⟩ := mv'
    have kA : Kp (Off t g) H H2 := k1.trans ((Kp.of (same_new np)).trans k2)
    -- the ages
    refine ⟨.ref t, rfl, _, rfl, t, g, n + 2, many, rfl, T2, by omega, by omega, fun H3 o ns k3 T3 no e3 hl hnd hsm => ?_⟩
    refine ⟨o, rfl, ⟨_, SqL.of e3⟩, fun D nD => ?_⟩
    have oD : Off t g D := T3.off nD
    have oo : Off t g o := T2.off no
    have kB : Kp (Off t g) H H3 := kA.trans k3
    have hDo : o ≠ D := ne_of_none e3 nD
    have nD0 : H D = none := kB.none oD nD
    refine lc_it (walk_list (xs := ns.map V.int)) (fun i H4 => ∃ ts gs, Kp (Off t g) H H4 ∧ H4 o = some (.lst (ns.map V.int)) ∧ GsAt H4 (fun b => H b = none) D ts gs ∧ D ∉ ts ∧ gs.map (·.1) = ns.take i ∧ (∀ g ∈ gs, 0 ≤ g.2) ∧ (∀ g ∈ gs, g.2 < 10 ^ 30) ∧ Tray H4 t g (n + 202 + 5 * i))
      ⟨[], [], kB.new nD, by rw [upd_ne hDo]; exact e3, ⟨upd_same, nD0, rfl, fun i t g e _ => by simp at e, fun t m => by simp at m⟩, by simp, rfl, fun g m => by simp at m, fun g m => by simp at m, T3.mut oD⟩ (fun i H4 _ hW => ?_) (fun i x H4 H5 hi hW hY => ?_) (fun H4 hW => ?_)
    · obtain ⟨_, _, _, e4, _⟩ := hW
      exact SqL.of e4
    · obtain ⟨ts, gs, kp, e4, hG, hD, hgs, hpos, hpt, T4⟩ := hW
      obtain ⟨rfl, hx⟩ := hY
      obtain ⟨a, ea, rfl⟩ := ints_at hx
      have hi' : i < ns.length := at_lt ea
      have hgl : gs.length = i := by
        have := congrArg List.length hgs
        rw [List.length_map, List.length_take] at this
        omega
      refine ⟨rfl, .int a, rfl, .ref t, rfl, .int lot, rfl, _, rfl, t, g, n + 202 + 5 * i, many, lot, rfl, T4, by omega, by omega, l0, l5, fun H6 b k6 T6 b0 b30 => ?_⟩
      refine ⟨(by show 2 ≤ sizeLine; decide), fun u nu => ?_⟩
      have ou : Off t g u := T6.off nu
      have k7 : Kp (Off t g) H (upd H6 u (.tup [.int a, .int b])) := (kp.trans k6).new nu
      have nu0 : H u = none := (kp.trans k6).none ou nu
      have offD : ∀ z, H z = none → Off t g z := fun z hz => hT.off hz
      have hG6 : GsAt H6 (fun b => H b = none) D ts gs := hG.keep (fun z x hz e => k6 z x (offD z hz) e)
      have hG7 : GsAt (upd H6 u (.tup [.int a, .int b])) (fun b => H b = none) D ts gs := hG6.same (same_new nu)
      refine ⟨ts.map V.ref, hG7.top, ils (by rw [List.length_map, hG.len]; omega), ts ++ [u], gs ++ [(a, b)], ?_, ?_, hG7.push hD (g := (a, b)) upd_same nu0, ?_, ?_, ?_, ?_, ?_⟩
      · exact k7.mutF nD0
      · rw [upd_ne hDo, upd_ne (ne_of_none (k6 _ _ oo e4) nu)]
        exact k6 _ _ oo e4
      · intro m
        rcases List.mem_append.mp m with m | m
        · exact hD m
        · exact (ne_of_none hG6.top nu) (List.mem_singleton.mp m)
      · rw [List.map_append, hgs, take_snoc ea]
        rfl
      · intro g m
        rcases List.mem_append.mp m with m | m
        · exact hpos g m
        · rw [List.mem_singleton.mp m]
          exact b0
      · intro g m
        rcases List.mem_append.mp m with m | m
        · exact hpt g m
        · rw [List.mem_singleton.mp m]
          exact b30
      · exact (T6.mut ou).mut oD
    · obtain ⟨ts, gs, kp, e4, hG, hD, hgs, hpos, hpt, T4⟩ := hW
      rw [List.length_map, take_full] at hgs
      have hgl : gs.length = many := by
        have := congrArg List.length hgs
        rw [List.length_map] at this
        omega
      exact q H4 D ts gs kp (T4.more (by rw [List.length_map]; omega)) hG hD ⟨by rw [hgs]; exact hnd, hpos⟩ (by omega) fun g m => ⟨hsm _ (by rw [← hgs]; exact List.mem_map.mpr ⟨g, m, rfl⟩), sm_of (hpos g m) (hpt g m)⟩
end
end El
namespace El
open PySem PySem.Spec PyProof.Rows L2
section
variable {P : Program} {w : World} {K : PySem.W.Frag} {mg : Str → Option Value} {base : Heap}
abbrev s_patience_by_age : Stmt := topS 7
abbrev N_patience_by_age : List Str := ["guests", "patience_of", "number", "age", "patience"]
abbrev P_patience_by_age : List Str := ["guests"]
theorem sc_patience_by_age : FnScope N_patience_by_age P_patience_by_age (defScope s_patience_by_age) := ⟨rfl, rfl, rfl, by decide +kernel, rfl, by decide +kernel, by decide +kernel⟩
def sp_patience_by_age : Sp := fun vs H Q _ => ∃ (B : Addr → Prop) (a : Addr) (ts : List Addr) (gs : List (Int × Int)), vs = [.ref a] ∧ GsAt H B a ts gs ∧ Fit gs ∧ gs.length ≤ 1000 ∧
  ∀ H' d, Same H H' → H d = none → H' d = some (.dK (pks gs)) → Q (.ref d) H'
theorem ok_patience_by_age (A : At K mg "patience_by_age" P_patience_by_age s_patience_by_age) (B : Bi mg) : Df P w K mg base 1 "patience_by_age" P_patience_by_age s_patience_by_age sp_patience_by_age := by
  refine A.df fun f fd F => F.ok sc_patience_by_age (fun vs H Q E h => ?_) (fun cdv AA outer s H vs Q E hr h => ?_)
  · obtain ⟨_, a, _, _, rfl, _⟩ := h
    rfl
  · obtain ⟨BB, a, ts, gs, rfl, hG, hF, hl, q⟩ := h
    have nd := sc_patience_by_age.nd
    refine ⟨_, (pss_cons (ps_set (i := 1) nd rfl (.inl rfl) pe_dnewK)
    (pss_cons (ps_for PassesOwn.never rfl (pi_enum (by rfl) B.enumerate (pa_cons (pv 0) pa_nil)) (pg_tup (by rfl) (pgs_cons (pg_name (i := 2) nd rfl (.inl rfl)) (pgs_cons (pg_tup (by rfl) (pgs_cons (pg_name (i := 3) nd rfl (.inl rfl)) (pgs_cons (pg_name (i := 4) nd rfl (.inl rfl)) pgs_nil))) pgs_nil))) (pss_cons (ps_if (PW.pt (pw_or (pt_cmpR op_lt (pv 4) pe_int (nomark _)) (pw_or1 (pt_cmp (pc_din (hu_of hr) (pv 3) (pv 1)))))) (pss_one ps_never) pss_nil) (pss_one (ps_dput (hu_of hr) (pv 1) (pv 3) (pv 4) rfl))))
    (pss_one (ps_ret (pv 1))))), ?_⟩
    -- patience_of = {}
    refine fun d nd => ?_
    have hG1 := hG.same (same_new (o := .dK []) nd)
    -- the loop
    refine ⟨.ref a, rfl, a, ts.map V.ref, rfl, hG1.seq, ?_⟩
    refine for_it (walk_enum (xs := ts.map V.ref)) (fun i σ H2 => ∃ y2 y3 y4, σ = [some (.ref a), some (.ref d), y2, y3, y4] ∧ Same H H2 ∧ H2 d = some (.dK (pks (gs.take i)))) ⟨none, none, none, rfl, same_new nd, upd_same⟩ (fun i σ H2 _ hW => ?_) (fun i x σ H2 H3 hi hW hY => ?_) (fun σ H2 hW => ?_)
    · obtain ⟨_, _, _, _, sm, _⟩ := hW
      exact (hG.same sm).seq
    · obtain ⟨y2, y3, y4, rfl, sm, hd⟩ := hW
      obtain ⟨T, x1, x2, rfl, nT, rfl, f1, f2⟩ := hY
      obtain rfl : V.int ↑i = x1 := Option.some.inj f1
      obtain ⟨t, g, rfl, eg, et⟩ := (hG.same sm).get f2
      have s3 : Same H2 (upd H2 T (.tup [.int i, .ref t])) := same_new nT
      refine ⟨T, [.int i, .ref t], rfl, SqT.of upd_same, rfl, .int i, [.ref t], rfl, .ref t, [], rfl, ?_⟩
      refine ⟨t, _, rfl, SqT.of (s3 _ _ et), rfl, .int g.1, [.int g.2], rfl, .int g.2, [], rfl, rfl, rfl, ?_⟩
      -- the test
      have hg : 0 ≤ g.2 := hF.pos g (List.mem_of_getElem? eg)
      have no := hF.take_no eg
      refine ⟨.int g.2, rfl, _, _, rfl, rfl, _, rfl, ?_⟩
      rw [decide_eq_false (by omega)]
      refine iteF ?_
      refine ⟨.int g.1, rfl, .ref d, rfl, d, _, rfl, DGet.k (k := Sum.inl g.1) (s3 _ _ hd), _, rfl, ?_⟩
      rw [pks_none no]
      refine iteF ?_
      refine ⟨.int g.2, rfl, .ref d, rfl, .int g.1, rfl, d, _, rfl, DPut.k (k := Sum.inl g.1) (s3 _ _ hd) (ils (by rw [pks_len, List.length_take]; omega)), ?_⟩
      refine ⟨some (.int i), some (.int g.1), some (.int g.2), rfl, Same.mut (Same.trans sm s3) nd, ?_⟩
      rw [upd_same, putK_snoc no, take_snoc eg]
    · obtain ⟨y2, y3, y4, rfl, sm, hd⟩ := hW
      rw [show (ts.map V.ref).length = gs.length by rw [List.length_map, hG.len], take_full] at hd
      exact ⟨.ref d, rfl, q H2 d sm nd hd⟩
end
end El
namespace El
open PySem PySem.Spec PyProof.Rows L2
section
variable {P : Program} {w : World} {K : PySem.W.Frag} {mg : Str → Option Value} {base : Heap}
abbrev s_first_borne : Stmt := topS 17
abbrev N_first_borne : List Str := ["filled", "patience", "number", "room"]
abbrev P_first_borne : List Str := ["filled", "patience"]
theorem sc_first_borne : FnScope N_first_borne P_first_borne (defScope s_first_borne) := ⟨rfl, rfl, rfl, by decide +kernel, rfl, by decide +kernel, by decide +kernel⟩
def sp_first_borne : Sp := fun vs H Q _ => ∃ (B : Addr → Prop) (o : Addr) (ts : List Addr) (rs : List (List Int)) (p : Int), vs = [.ref o, .int p] ∧ RmsAt H B o ts rs ∧ rs.length ≤ 1000 ∧
  ∀ H', Same H H' → Q (.int (firstB rs p)) H'
theorem ok_first_borne (A : At K mg "first_borne" P_first_borne s_first_borne) (B : Bi mg) : Df P w K mg base 1 "first_borne" P_first_borne s_first_borne sp_first_borne := by
  refine A.df fun f fd F => F.ok sc_first_borne (fun vs H Q E h => ?_) (fun cdv AA outer s H vs Q E hr h => ?_)
  · obtain ⟨_, _, _, _, _, rfl, _⟩ := h
    rfl
  · obtain ⟨BB, o, ts, rs, p, rfl, hR, hl, q⟩ := h
    have nd := sc_first_borne.nd
    refine ⟨_, (pss_cons (ps_for PassesOwn.never rfl (pi_enum (by rfl) B.enumerate (pa_cons (pv 0) pa_nil)) (pg_tup (by rfl) (pgs_cons (pg_name (i := 2) nd rfl (.inl rfl)) (pgs_cons (pg_name (i := 3) nd rfl (.inl rfl)) pgs_nil))) (pss_one (ps_if (pt_cmpR op_le (pe_callB call_len_seq (by rfl) B.len PySem.boot_len (pa_cons (pv 3) pa_nil)) (pv 1) (nomark _)) (pss_one (ps_ret (pv 2))) pss_nil)))
    (pss_one (ps_ret (pe_callB call_len_seq (by rfl) B.len PySem.boot_len (pa_cons (pv 0) pa_nil))))), ?_⟩
    refine ⟨.ref o, rfl, o, ts.map V.ref, rfl, hR.seq, ?_⟩
    refine for_it (walk_enum (xs := ts.map V.ref)) (fun i σ H2 => ∃ y2 y3, σ = [some (.ref o), some (.int p), y2, y3] ∧ Same H H2 ∧ ∀ j r, j < i → rs[j]? = some r → p < (r.length : Int)) ⟨none, none, rfl, Same.refl _, fun j r h => absurd h (Nat.not_lt_zero _)⟩ (fun i σ H2 _ hW => ?_) (fun i x σ H2 H3 hi hW hY => ?_) (fun σ H2 hW => ?_)
    · obtain ⟨_, _, _, sm, _⟩ := hW
      exact (hR.same sm).seq
    · obtain ⟨y2, y3, rfl, sm, hp⟩ := hW
      obtain ⟨T, x1, x2, rfl, nT, rfl, f1, f2⟩ := hY
      obtain rfl : V.int ↑i = x1 := Option.some.inj f1
      obtain ⟨t, r, rfl, _, er, et⟩ := (hR.same sm).get f2
      have s3 : Same H2 (upd H2 T (.tup [.int i, .ref t])) := same_new nT
      refine ⟨T, [.int i, .ref t], rfl, SqT.of upd_same, rfl, .int i, [.ref t], rfl, .ref t, [], rfl, rfl, ?_⟩
      refine ⟨.ref t, rfl, t, _, rfl, .inl (SqL.of (s3 _ _ et)), .int p, rfl, _, _, rfl, rfl, _, rfl, ite2 (fun e => ?_) (fun e => ?_)⟩
      · have e := of_decide_eq_true e
        rw [List.length_map] at e
        have hb : firstB rs p = i := firstB_is rs p i (Nat.le_of_lt (at_lt er)) hp fun r' e' => by
          obtain rfl : r = r' := Option.some.inj (er.symm.trans e')
          exact e
        refine ⟨.int i, rfl, ?_⟩
        have q' := q (upd H2 T (.tup [.int i, .ref t])) (sm.trans s3)
        rw [hb] at q'
        exact q'
      · have e : ¬ (((r.map V.int).length : Int) ≤ p) := fun z => e (decide_eq_true z)
        rw [List.length_map] at e
        refine ⟨some (.int i), some (.ref t), rfl, sm.trans s3, fun j r' hj e' => ?_⟩
        by_cases hji : j < i
        · exact hp j r' hji e'
        · have : j = i := by omega
          subst this
          obtain rfl : r = r' := Option.some.inj (er.symm.trans e')
          omega
    · obtain ⟨y2, y3, rfl, sm, hp⟩ := hW
      have hn : (ts.map V.ref).length = rs.length := by rw [List.length_map, hR.len]
      rw [hn] at hp
      have hb : firstB rs p = rs.length := firstB_is rs p _ (Nat.le_refl _) hp fun r' e' => absurd (at_lt e') (Nat.lt_irrefl _)
      refine ⟨.ref o, rfl, o, _, rfl, .inl (hR.same sm).seq, ?_⟩
      have q' := q H2 sm
      rw [hb, ← hn] at q'
      exact q'
end
end El
namespace El
open PySem PySem.Spec PyProof.Rows L2
section
variable {P : Program} {w : World} {K : PySem.W.Frag} {mg : Str → Option Value} {base : Heap}
abbrev s_rooms : Stmt := topS 16
abbrev N_rooms : List Str := ["guests", "patience_of", "told", "age", "number"]
abbrev P_rooms : List Str := ["guests"]
theorem sc_rooms : FnScope N_rooms P_rooms (defScope s_rooms) := ⟨rfl, rfl, rfl, by decide +kernel, rfl, by decide +kernel, by decide +kernel⟩
def sp_rooms : Sp := fun vs H Q _ => ∃ (B : Addr → Prop) (a : Addr) (ts : List Addr) (gs : List (Int × Int)), vs = [.ref a] ∧ GsAt H B a ts gs ∧ Fit gs ∧ gs.length ≤ 1000 ∧
  ∀ H' o us, Same H H' → RmsAt H' (fun b => H b = none) o us (settle gs) → Q (.ref o) H'
theorem ok_rooms (A : At K mg "rooms" P_rooms s_rooms) (B : Bi mg) (D_patience_by_age : Df P w K mg base 1 "patience_by_age" P_patience_by_age s_patience_by_age sp_patience_by_age)
    (D_first_borne : Df P w K mg base 1 "first_borne" P_first_borne s_first_borne sp_first_borne) : Df P w K mg base 2 "rooms" P_rooms s_rooms sp_rooms := by
  refine A.df fun f fd F => F.ok sc_rooms (fun vs H Q E h => ?_) (fun cdv AA outer s H vs Q E hr h => ?_)
  · obtain ⟨_, a, _, _, rfl, _⟩ := h
    rfl
  · obtain ⟨BB, a, ts, gs, rfl, hG, hF, hl, q⟩ := h
    have nd := sc_rooms.nd
    refine ⟨_, (pss_cons (ps_set (i := 1) nd rfl (.inl rfl) (pe_df D_patience_by_age (hr.mono (by decide)) (by rfl) (pa_cons (pv 0) pa_nil)))
    (pss_cons (ps_set (i := 2) nd rfl (.inl rfl) (pe_lst pa_nil))
    (pss_cons (ps_for PassesOwn.never rfl (pi_list (pe_callBK (cr_sortedRevD (b := true) rfl) (by rfl) B.sorted (by decide +kernel) (pa_cons (pv 1) pa_nil) (pk_cons pe_bl pk_nil))) (pg_name (i := 3) nd rfl (.inl rfl)) (pss_cons (ps_set (i := 4) nd rfl (.inl rfl) (pe_df D_first_borne (hr.mono (by decide)) (by rfl) (pa_cons (pv 2) (pa_cons (pe_dget (hu_of hr) (pv 1) (pv 3) (fun _ _ => rfl)) pa_nil)))) (pss_cons (ps_if (pt_cmpR op_eq (pv 4) (pe_callB call_len_seq (by rfl) B.len PySem.boot_len (pa_cons (pv 2) pa_nil)) (nomark _)) (pss_one (ps_expr (pe_bm PySem.F.plainAttrs_list PySem.F.slot_list_append PySem.F.type_list_append mt_append (pv 2) (pa_cons (pe_lst pa_nil) pa_nil)))) pss_nil) (pss_one (ps_expr (pe_bm PySem.F.plainAttrs_list PySem.F.slot_list_append PySem.F.type_list_append mt_append (pe_ix ix_list (pv 2) (pv 4) (fun _ _ => rfl)) (pa_cons (pv 3) pa_nil)))))))
    (pss_one (ps_ret (pv 2)))))), ?_⟩
    -- patience_of = patience_by_age(guests)
    refine ⟨.ref a, rfl, BB, a, ts, gs, rfl, hG, hF, hl, fun H1 d s1 n1 e1 => ?_⟩
    -- told = []
    refine ⟨Nat.zero_le _, fun o no => ?_⟩
    have s2 : Same H1 (upd H1 o (.lst [])) := same_new no
    -- sorted(patience_of, reverse=True)
    refine ⟨.ref d, rfl, d, pks gs, gs.map (·.1), rfl, rfl, .inl (s2 _ _ e1), pks_keys gs, fun ns p hp ho np => ?_⟩
    have hns : ns = (byAge gs).map (·.1) := ages_of hF hp ho
    subst hns
    have s3 : Same (upd H1 o (.lst [])) (upd (upd H1 o (.lst [])) p (.lst (((byAge gs).map (·.1)).map V.int))) := same_new np
    have sH : Same H (upd (upd H1 o (.lst [])) p (.lst (((byAge gs).map (·.1)).map V.int))) := s1.trans (s2.trans s3)
    refine ⟨p, rfl, ⟨_, SqL.of upd_same⟩, ?_⟩
    have hpo : o ≠ p := (no_of upd_same np).symm
    have eo : upd (upd H1 o (.lst [])) p (.lst (((byAge gs).map (·.1)).map V.int)) o = some (.lst []) := by
      rw [upd_ne hpo, upd_same]
    have ep : upd (upd H1 o (.lst [])) p (.lst (((byAge gs).map (·.1)).map V.int)) p = some (.lst (((byAge gs).map (·.1)).map V.int)) := upd_same
    have ed := s3 _ _ (s2 _ _ e1)
    have hdo : d ≠ o := ne_of_none e1 no
    have no' : H o = none := s1.free no
    revert eo ep ed sH
    generalize upd (upd H1 o (.lst [])) p (.lst (((byAge gs).map (·.1)).map V.int)) = Hs
    intro sH eo ep ed
    refine for_it (walk_list (xs := ((byAge gs).map (·.1)).map V.int)) (fun i σ H2 => ∃ us y3 y4, σ = [some (.ref a), some (.ref d), some (.ref o), y3, y4] ∧ Kp (fun b => b ≠ o) Hs H2 ∧ RmsAt H2 (fun b => b = o ∨ Hs b = none) o us (settleL ((byAge gs).take i)))
      ⟨[], none, none, rfl, Kp.refl, RmsAt.nil eo (.inl rfl)⟩ (fun i σ H2 _ hW => ?_) (fun i x σ H2 H3 hi hW hY => ?_) (fun σ H2 hW => ?_)
    · obtain ⟨_, _, _, _, kp, _⟩ := hW
      exact SqL.of (kp _ _ hpo.symm ep)
    · obtain ⟨us, y3, y4, rfl, kp, hR⟩ := hW
      obtain ⟨rfl, hx⟩ := hY
      obtain ⟨n, hx', rfl⟩ := ints_at hx
      have hi' : i < (byAge gs).length := by
        have := at_lt hx'
        rw [List.length_map] at this
        exact this
      obtain ⟨g, eg⟩ := at_some hi'
      rw [List.getElem?_map, eg] at hx'
      obtain rfl : g.1 = n := Option.some.inj hx'
      have hm : g ∈ gs := (byAge_perm gs).mem_iff.mp (List.mem_of_getElem? eg)
      have hlt : (settleL ((byAge gs).take i)).length ≤ 1000 := by
        refine Nat.le_trans (settleL_len _) ?_
        rw [List.length_take, byAge_length]
        omega
      have hE := settleL_take eg
      have hrm : ∀ r ∈ settleL ((byAge gs).take i), r.length ≤ 1000 := fun r hr => by
        refine Nat.le_trans (settleL_room hr) ?_
        rw [List.length_take, byAge_length]
        omega
      revert hlt hE hR hrm
      generalize settleL ((byAge gs).take i) = rs
      intro hR hlt hE hrm
      -- number = first_borne(told, patience_of[age])
      refine ⟨.ref o, rfl, .ref d, rfl, .int g.1, rfl, d, .int g.2, rfl, dget_pks (kp _ _ hdo ed) hF hm, _, o, us, _, g.2, rfl, hR, hlt, fun H4 s4 => ?_⟩
      have hR4 := hR.same s4
      have k4 : Kp (fun b => b ≠ o) Hs H4 := kp.trans (.of s4)
      have fin : ∀ {H5 : Hp} {us' : List Addr} {rs' : List (List Int)} {t : Addr} {r : List Int}, Kp (fun b => b ≠ o) Hs H5 → RmsAt H5 (fun b => b = o ∨ Hs b = none) o us' rs' → us'[firstB rs g.2]? = some t → place rs g.1 g.2 = rs'.set (firstB rs g.2) (r ++ [g.1]) →
          ∃ us y3 y4, [some (V.ref a), some (.ref d), some (.ref o), some (.int g.1), some (.int (firstB rs g.2))] = [some (V.ref a), some (.ref d), some (.ref o), y3, y4] ∧ Kp (fun b => b ≠ o) Hs (upd H5 t (.lst (r.map V.int ++ [.int g.1]))) ∧ RmsAt (upd H5 t (.lst (r.map V.int ++ [.int g.1]))) (fun b => b = o ∨ Hs b = none) o us (settleL ((byAge gs).take (i + 1))) := by
        intro H5 us' rs' t r k5 hR5 et ep
        refine ⟨us', _, _, rfl, ?_, ?_⟩
        · rcases hR5.b t (List.mem_of_getElem? et) with z | z
          · exact absurd (z ▸ List.mem_of_getElem? et) hR5.no
          · exact k5.mutF z
        · have z := hR5.set et (r ++ [g.1])
          rw [List.map_append] at z
          rw [hE, ep]
          exact z
      -- if number == len(told)
      refine ⟨_, rfl, .ref o, rfl, o, _, rfl, .inl hR4.seq, rfl, _, rfl, ite2 (fun e => ?_) (fun e => ?_)⟩
      · have e := V.int.inj (of_decide_eq_true e)
        rw [List.length_map, hR.len] at e
        have e : firstB rs g.2 = rs.length := by omega
        refine ⟨.ref o, rfl, .inl ⟨rfl, _, hR4.seq⟩, Nat.zero_le _, fun u nu => ?_⟩
        have nuo : o ≠ u := ne_of_none hR4.top nu
        refine ⟨o, _, _, rfl, rfl, (by rw [upd_ne nuo]; exact hR4.top), ils (by rw [List.length_map, hR.len]; omega), ?_⟩
        have hns : Hs u = none := k4.none nuo.symm nu
        have hR5 := hR4.push (r := []) nu (.inr hns)
        have k5 : Kp (fun b => b ≠ o) Hs (upd (upd H4 u (.lst [])) o (.lst (us.map V.ref ++ [.ref u]))) := Kp.mut (Kp.new k4 nu) (fun z => z rfl)
        have et : (us ++ [u])[firstB rs g.2]? = some u := by
          rw [e, ← hR.len, List.getElem?_append_right (Nat.le_refl _), Nat.sub_self]
          rfl
        have er : (rs ++ [[]])[firstB rs g.2]? = some [] := by
          rw [e, List.getElem?_append_right (Nat.le_refl _), Nat.sub_self]
          rfl
        have eu := hR5.at' _ _ _ et er
        refine ⟨.ref o, rfl, _, rfl, o, _, _, .ref u, rfl, rfl, SqL.of (by rw [upd_same]), atI_nat (j := firstB rs g.2) ?_, .inl ⟨rfl, _, SqL.of eu⟩, .int g.1, rfl, u, _, _, rfl, rfl, eu, ils (Nat.zero_le _), ?_⟩
        · have z := congrArg (Option.map V.ref) et
          rw [← List.getElem?_map, List.map_append] at z
          exact z
        · refine fin (r := []) k5 hR5 et ?_
          rw [place_new _ _ _ e, e, List.set_append_right _ _ (Nat.le_refl _), Nat.sub_self]
          rfl
      · have e : ¬ firstB rs g.2 = rs.length := fun z => e (decide_eq_true (by rw [List.length_map, hR.len, z]))
        have hle := firstB_le rs g.2
        obtain ⟨r, er, _⟩ := firstB_in rs g.2 (by omega)
        obtain ⟨t, et, eu⟩ := hR4.of er
        refine ⟨.ref o, rfl, _, rfl, o, _, _, .ref t, rfl, rfl, hR4.seq, atI_nat (j := firstB rs g.2) ?_, .inl ⟨rfl, _, SqL.of eu⟩, .int g.1, rfl, t, _, _, rfl, rfl, eu, ils (by rw [List.length_map]; have := hrm r (List.mem_of_getElem? er); omega), ?_⟩
        · rw [List.getElem?_map, et]
          rfl
        · exact fin k4 hR4 et (place_at _ _ _ _ er)
    · obtain ⟨us, y3, y4, rfl, kp, hR⟩ := hW
      rw [List.length_map, List.length_map, take_full] at hR
      refine ⟨.ref o, rfl, q H2 o us ?_ (hR.newTop (fun _ _ _ e => e) fun b hb => ?_)⟩
      · intro b x hb
        exact kp _ _ (ne_of_none hb no') (sH _ _ hb)
      · rcases hb with rfl | hb
        · exact no'
        · rcases hR.b b hb with rfl | z
          · exact no'
          · exact sH.free z
end
end El
namespace El
open PySem PySem.Spec PyProof.Rows L2 SX
section
variable {P : Program} {w : World} {K : PySem.W.Frag} {mg : Str → Option Value} {base : Heap}
abbrev s__law_rooms_written : Stmt := topS 27
abbrev N__law_rooms_written : List Str := ["line", "words", "room", "age"]
abbrev P__law_rooms_written : List Str := ["line"]
theorem sc__law_rooms_written : FnScope N__law_rooms_written P__law_rooms_written (defScope s__law_rooms_written) := ⟨rfl, rfl, rfl, by decide +kernel, rfl, by decide +kernel, by decide +kernel⟩
def sp__law_rooms_written : Sp := fun vs H Q _ => ∃ (BB : Addr → Prop) (a : Addr) (ts : List Addr) (rs : List (List Int)), vs = [.ref a] ∧ RmsAt H BB a ts rs ∧ Rml rs ∧ ∀ H', Same H H' → Q (.str (S (roomsT rs))) H'
theorem ok__law_rooms_written (A : At K mg "_law_rooms_written" P__law_rooms_written s__law_rooms_written) (B : Bi mg) : Df P w K mg base 1 "_law_rooms_written" P__law_rooms_written s__law_rooms_written sp__law_rooms_written := by
  refine A.df fun f fd F => F.ok sc__law_rooms_written (fun vs H Q E h => ?_) (fun cdv AA outer s H vs Q E hr h => ?_)
  · obtain ⟨_, _, _, _, rfl, _⟩ := h
    rfl
  · obtain ⟨BB, a, ts, rs, rfl, hR, hm, q⟩ := h
    have nd := sc__law_rooms_written.nd
    refine ⟨_, (pss_cons (ps_set (i := 1) nd rfl (.inl rfl) (pe_lst pa_nil))
    (pss_cons (ps_for PassesOwn.never rfl (pi_list (pv 0)) (pg_name (i := 2) nd rfl (.inl rfl)) (pss_one (ps_expr (pe_bm PySem.F.plainAttrs_list PySem.F.slot_list_append PySem.F.type_list_append mt_append (pv 1) (pa_cons (pe_bm PySem.F.plainAttrs_str PySem.F.slot_str_join PySem.F.type_str_join mt_join pe_str (pa_cons (pe_lc (own := [("age", 3)]) (tt := tYes) rfl nd (pi_list (pv 2)) (blkOk_by (N := N__law_rooms_written) (sc := defScope s__law_rooms_written) (by decide +kernel)) (fun _ _ _ _ _ => (pg_name (i := 3) nd rfl (.inl rfl))) (fun _ _ _ _ _ => pts_nil) (fun _ _ _ _ _ => (pe_callTy call_str_int (by rfl) B.str_ (by decide +kernel) (pa_cons (pv 3) pa_nil)))) pa_nil)) pa_nil)))))
    (pss_one (ps_ret (pe_ifExp (pt_cmpR (op_neD hr.units) (pv 1) (pe_lst pa_nil) (nomark _)) (pe_bm PySem.F.plainAttrs_str PySem.F.slot_str_join PySem.F.type_str_join mt_join pe_str (pa_cons (pv 1) pa_nil)) pe_str))))), ?_⟩
    have hl := hm.rooms
    refine ⟨Nat.zero_le _, fun o no => ?_⟩
    have s1 : Same H (upd H o (.lst [])) := same_new no
    have eo : (upd H o (.lst [])) o = some (.lst []) := upd_same
    generalize upd H o (.lst []) = H1 at s1 eo ⊢
    have hR1 := hR.same s1
    refine ⟨.ref a, rfl, a, rfl, ⟨_, hR1.seq⟩, ?_⟩
    refine for_it (walk_list (xs := ts.map V.ref)) (fun k σ H2 => ∃ y2 y3, σ = [some (.ref a), some (.ref o), y2, y3] ∧ Same H H2 ∧ H2 o = some (.lst (((rs.take k).map fun r => S (roomW r)).map V.str))) ⟨none, none, rfl, s1, eo⟩ (fun k σ H2 _ hW => ?_) (fun k x σ H2 H3 hk hW hY => ?_) (fun σ H2 hW => ?_)
    · obtain ⟨_, _, _, sm, _⟩ := hW
      exact (hR.same sm).seq
    · obtain ⟨y2, y3, rfl, sm, e⟩ := hW
      obtain ⟨rfl, hx⟩ := hY
      obtain ⟨t, r, rfl, _, er, et⟩ := (hR.same sm).get hx
      have mr := List.mem_of_getElem? er
      refine ⟨.ref o, rfl, .inl ⟨rfl, _, SqL.of e⟩, rfl, .ref t, rfl, t, rfl, ⟨_, SqL.of et⟩, fun D2 nD2 => ?_⟩
      refine lc_sints (SqL.of et) nD2 (hm.room mr) (fun z H' mz Q h => ⟨.int z, rfl, z, rfl, (hm.sm r mr z mz).log, by rw [← text_S] at h; exact h⟩) (fun _ => rfl) (fun H4 s4 e4 => ?_)
      refine ⟨",", D2, r.map (fun z => S (numI z)), rfl, rfl, .inl (SqL.of e4), nums_sum (hm.sm r mr) (hm.room mr), ?_⟩
      rw [join_nums]
      have e' := s4 _ _ e
      refine ⟨o, _, _, rfl, rfl, e', ils (by rw [List.length_map, List.length_map, List.length_take]; omega), ?_⟩
      refine ⟨_, _, rfl, Same.mut (sm.trans s4) no, ?_⟩
      rw [upd_same, take_snoc er, List.map_append, List.map_append]
      rfl
    · obtain ⟨y2, y3, rfl, sm, e⟩ := hW
      rw [List.length_map, hR.len, take_full] at e
      refine ⟨.ref o, rfl, Nat.zero_le _, fun z nz => ?_⟩
      have s3 : Same H2 (upd H2 z (.lst [])) := same_new nz
      refine ⟨dStrs (rs.map fun r => S (roomW r)), dStrs [], Dp.strs (s3 _ _ e), Dp.strs (ws := []) upd_same, (Oks.strs _ fun w m => by
        obtain ⟨r, mr, rfl⟩ := List.mem_map.mp m
        exact strOk_S (roomW_low r)).shaped, (Oks.strs _ fun w m => by simp at m).shaped, _, rfl, ?_⟩
      rw [eqv_strs_nil]
      have q' := q _ (sm.trans s3)
      unfold roomsT at q'
      by_cases hn : rs = []
      · subst hn
        refine iteX rfl ?_
        rw [if_pos rfl, ← none_S] at q'
        exact q'
      · have he : (rs.map fun r => S (roomW r)).isEmpty = false := by
          cases rs with
          | nil => exact absurd rfl hn
          | cons c r => rfl
        rw [he]
        rw [if_neg hn] at q'
        refine iteTx rfl ?_
        refine ⟨rfl, .ref o, rfl, " | ", o, rs.map (fun r => S (roomW r)), rfl, rfl, .inl (SqL.of (s3 _ _ e)), rooms_sum' hm, ?_⟩
        rw [join_rooms]
        exact q'
end
end El
namespace El
open PySem PySem.Spec PyProof.Rows L2 SX
section
variable {P : Program} {w : World} {K : PySem.W.Frag} {mg : Str → Option Value} {base : Heap}
abbrev s_law : Stmt := topS 28
abbrev N_law : List Str := ["script", "tray", "k", "line", "held", "due", "told", "room"]
abbrev P_law : List Str := ["script"]
theorem sc_law : FnScope N_law P_law (defScope s_law) := ⟨rfl, rfl, rfl, by decide +kernel, rfl, by decide +kernel, by decide +kernel⟩
def sp_law (K : PySem.W.Frag) : Sp := fun vs H Q _ => ∃ (a : Addr) (ns : List Int), vs = [.ref a] ∧ SqL K H a (ns.map V.int) ∧ ns.length ≤ 63 ∧ ∀ H', Q (.bl true) H'
theorem RmsAt.liv {H : Hp} {B : Addr → Prop} {a : Addr} {ts : List Addr} {rs : List (List Int)} (h : RmsAt H B a ts rs) : RmsAt H (Liv H B) a ts rs :=
  ⟨h.top, Liv.of h.top h.bo, h.nd, h.no, h.len, h.at', fun t m => by
    obtain ⟨i, e⟩ := List.mem_iff_getElem?.mp m
    have hi := at_lt e
    rw [h.len] at hi
    obtain ⟨r, er⟩ := at_some hi
    exact Liv.of (h.at' i t r e er) (h.b t m)⟩
theorem ok_law (A : At K mg "law" P_law s_law) (B : Bi mg)
    (D__law_tray : Df P w K mg base 1 "_law_tray" P__law_tray s__law_tray (sp__law_tray K)) (D__law_draw : Df P w K mg base 1 "_law_draw" P__law_draw s__law_draw sp__law_draw)
    (D__law_line : Df P w K mg base 4 "_law_line" P__law_line s__law_line sp__law_line) (D__law_guests : Df P w K mg base 4 "_law_guests" P__law_guests s__law_guests sp__law_guests) (D_rooms : Df P w K mg base 2 "rooms" P_rooms s_rooms sp_rooms) (D__law_rooms_written : Df P w K mg base 1 "_law_rooms_written" P__law_rooms_written s__law_rooms_written sp__law_rooms_written)
    (D_show_rooms : Df P w K mg base 1 "show_rooms" P_show_rooms s_show_rooms sp_show_rooms) (D_read_rooms : Df P w K mg base 3 "read_rooms" P_read_rooms s_read_rooms sp_read_rooms)
    (D__law_alike : Df P w K mg base 4 "_law_alike" P__law_alike s__law_alike (sp__law_alike 3)) : Df P w K mg base 5 "law" P_law s_law (sp_law K) := by
  refine A.df fun f fd F => F.ok sc_law (fun vs H Q E h => ?_) (fun cdv AA outer s H vs Q E hr h => ?_)
  · obtain ⟨a, _, rfl, _⟩ := h
    rfl
  · obtain ⟨a, ns, rfl, hS, hl, q⟩ := h
    have nd := sc_law.nd
    refine ⟨_, (pss_cons (ps_set (i := 1) nd rfl (.inl rfl) (pe_df D__law_tray (hr.mono (by decide)) (by rfl) (pa_cons (pv 0) pa_nil)))
    (pss_cons (ps_for PassesOwn.never rfl (pi_range1 (by rfl) B.range (pa_cons (pe_op op_add pe_int (pe_op op_mul pe_int (pe_callB call_len_seq (by rfl) B.len PySem.boot_len (pa_cons (pe_slice sl_list (pv 0) po_none (po_some pe_int)) pa_nil)))) pa_nil)) (pg_name (i := 2) nd rfl (.inl rfl)) (pss_cons (ps_set (i := 3) nd rfl (.inl rfl) (pe_df D__law_line (hr.mono (by decide)) (by rfl) (pa_cons (pv 1) (pa_cons (pe_ix ix_list (pe_lst (pa_cons pe_int (pa_cons pe_int pa_nil))) (pe_df D__law_draw (hr.mono (by decide)) (by rfl) (pa_cons (pv 1) (pa_cons pe_int pa_nil))) (fun _ _ => rfl)) pa_nil)))) (pss_cons (ps_if (pt_cmpR op_eq (pe_df D__law_draw (hr.mono (by decide)) (by rfl) (pa_cons (pv 1) (pa_cons pe_int pa_nil))) pe_int (nomark _)) (pss_one (ps_set (i := 3) nd rfl (.inl rfl) (pe_df D_rooms (hr.mono (by decide)) (by rfl) (pa_cons (pe_df D__law_guests (hr.mono (by decide)) (by rfl) (pa_cons (pv 1) (pa_cons pe_int pa_nil))) pa_nil)))) pss_nil) (pss_cons (ps_setLc (i := 4) (own := [("room", 7)]) (tt := tYes) rfl nd rfl rfl (sw_true rfl rfl rfl (by decide +kernel)) (pi_list (pv 3)) (blkOk_by (N := N_law) (sc := defScope s_law) (by decide +kernel)) (fun _ _ _ _ _ => (pg_name (i := 7) nd rfl (.inl rfl))) (fun _ _ _ _ _ => pts_nil) (fun _ _ _ _ _ => (pe_callTy (listOfK K) (by rfl) B.list_ (by decide +kernel) (pa_cons (pv 7) pa_nil)))) (pss_cons (ps_set (i := 5) nd rfl (.inl rfl) (pe_df D__law_rooms_written (hr.mono (by decide)) (by rfl) (pa_cons (pv 3) pa_nil))) (pss_cons (ps_if (pt_not (pt_val (pe_df D__law_alike (hr.mono (by decide)) (by rfl) (pa_cons (pe_lst (pa_cons (pe_df D_show_rooms (hr.mono (by decide)) (by rfl) (pa_cons (pv 3) pa_nil)) (pa_cons (pe_dfK D_show_rooms ["rooms"] (fun l => l) (hr.mono (by decide)) (by rfl) (pk_cons (pv 3) pk_nil) (fun _ _ _ _ _ _ ws hl => match ws, hl with | [_], _ => rfl) (fun r => r)) pa_nil))) (pa_cons (pe_lst (pa_cons (pv 5) (pa_cons (pv 5) pa_nil))) pa_nil))))) (pss_one (ps_ret pe_bl)) pss_nil) (pss_cons (ps_set (i := 6) nd rfl (.inl rfl) (pe_df D_read_rooms (hr.mono (by decide)) (by rfl) (pa_cons (pv 5) pa_nil))) (pss_cons (ps_if (pt_not (pt_val (pe_df D__law_alike (hr.mono (by decide)) (by rfl) (pa_cons (pv 6) (pa_cons (pv 4) pa_nil))))) (pss_one (ps_ret pe_bl)) pss_nil) (pss_cons (ps_for PassesOwn.never rfl (pi_list (pv 6)) (pg_name (i := 7) nd rfl (.inl rfl)) (pss_one (ps_expr (pe_bm PySem.F.plainAttrs_list PySem.F.slot_list_append PySem.F.type_list_append mt_append (pv 7) (pa_cons pe_int pa_nil))))) (pss_cons (ps_expr (pe_bm PySem.F.plainAttrs_list PySem.F.slot_list_append PySem.F.type_list_append mt_append (pv 6) (pa_cons (pe_lst pa_nil) pa_nil))) (pss_one (ps_if (pt_not (pt_val (pe_df D__law_alike (hr.mono (by decide)) (by rfl) (pa_cons (pe_lst (pa_cons (pe_dfK D_read_rooms ["text"] (fun l => l) (hr.mono (by decide)) (by rfl) (pk_cons (pv 5) pk_nil) (fun _ _ _ _ _ _ ws hl => match ws, hl with | [_], _ => rfl) (fun r => r)) (pa_cons (pv 3) pa_nil))) (pa_cons (pe_lst (pa_cons (pv 4) (pa_cons (pv 4) pa_nil))) pa_nil))))) (pss_one (ps_ret pe_bl)) pss_nil))))))))))))
    (pss_one (ps_ret pe_bl)))), ?_⟩
    -- tray
    refine ⟨.ref a, rfl, a, ns, rfl, hS, hl, fun H1 t g s1 nt ng hT => ?_⟩
    refine ⟨.ref a, rfl, 12, rfl, a, _, rfl, s1.seq hS, fun c nc => ?_⟩
    rw [show cutV (ns.map V.int) none (some 12) = (ns.map V.int).take 12 from cut_to _ 12, ← List.map_take]
    have hT2 : Tray (upd H1 c (.lst ((ns.take 12).map V.int))) t g 0 := hT.keep (same_new nc)
    refine ⟨c, _, rfl, .inl (SqL.of upd_same), _, _, rfl, rfl, .inr (by rw [List.length_map, List.length_take]; omega), _, _, rfl, rfl, _, rfl, by omega, by rw [List.length_map, List.length_take]; omega, ?_⟩
    have hlaps : ((5 : Int) + 3 * (((ns.take 12).map V.int).length : Int)).toNat ≤ 41 := by
      rw [List.length_map, List.length_take]
      omega
    generalize upd H1 c (.lst ((ns.take 12).map V.int)) = H2 at hT2 ⊢
    refine for_it walk_range (fun i σ H2 => ∃ y2 y3 y4 y5 y6 y7, σ = [some (.ref a), some (.ref t), y2, y3, y4, y5, y6, y7] ∧ Tray H2 t g (2000 * i)) ⟨_, _, _, _, _, _, rfl, hT2⟩ (fun _ _ _ _ _ => trivial) (fun i x σ H3 H4 hi hW hY => ?_) (fun σ H2 hW => ?_)
    · obtain ⟨y2, y3, y4, y5, y6, y7, rfl, T3⟩ := hW
      obtain ⟨rfl, rfl⟩ := hY
      have hi41 : i ≤ 40 := by omega
      -- line
      refine ⟨.ref t, rfl, (by show 2 ≤ sizeLine; decide), fun p np => ?_⟩
      have op : Off t g p := T3.off np
      refine ⟨.ref t, rfl, t, g, 2000 * i, 2, rfl, T3.mut op, by omega, by decide, by decide, fun H5 r5 k5 T5 a5 b5 => ?_⟩
      obtain ⟨most, hv, hm0, hm1⟩ := pick2 (P := fun x => 0 < x ∧ x ≤ 60) (a := 5) (b := 60) a5 b5 ⟨by decide, by decide⟩ ⟨by decide, by decide⟩
      obtain ⟨m, rfl⟩ : ∃ m : Nat, most = (m : Int) := ⟨most.toNat, by omega⟩
      refine ⟨p, _, _, _, rfl, rfl, SqL.of (k5 _ _ op upd_same), hv, t, g, _, m, rfl, T5, by omega, by omega, fun H6 o us rs k6 T6 hR6 hm hf hnd hfl => ?_⟩
      have hR6 : RmsAt H6 (Off t g) o us rs := hR6.weaken fun b hb => T5.off hb
      dsimp only [gName]
      refine seq_to (fun σ H => ∃ L us rs, σ = [some (.ref a), some (.ref t), some (.int (0 + (i : Int))), some (.ref L), y4, y5, y6, y7] ∧ Tray H t g (2000 * i + 1200) ∧ RmsAt H (Off t g) L us rs ∧ Rml rs ∧ (∀ r ∈ rs, r.Pairwise (· > ·)) ∧ rs.flatten.Nodup) (fun X hX => ?_) (fun σ H7 hE => ?_)
      · refine ⟨.ref t, rfl, t, g, _, 3, rfl, T6, by omega, by decide, by decide, fun H7 r7 k7 T7 a7 b7 => ⟨rfl, _, rfl, ite2 (fun e => ?_) (fun e => ?_)⟩⟩
        · refine ⟨.ref t, rfl, t, g, _, 40, rfl, T7, by decide, by omega, fun H8 o2 ts gs k8 T8 hG8 hno hF hcl hs => ?_⟩
          refine ⟨_, o2, ts, gs, rfl, hG8, hF, by omega, fun H9 o3 us3 s9 hR9 => ?_⟩
          have hpf := settle_flat gs
          refine hX _ _ ⟨o3, us3, settle gs, rfl, (T8.keep s9).more (by omega), hR9.weaken fun z hz => T8.off hz, ⟨fun r mr x mx => ?_, settleL_ne _, ?_⟩, fun r mr => ?_, hpf.nodup_iff.mpr hF.nd⟩
          · have := hpf.mem_iff.mp (List.mem_flatten.mpr ⟨r, mr, mx⟩)
            obtain ⟨g', mg', rfl⟩ := List.mem_map.mp this
            exact (hs g' mg').1
          · rw [hpf.length_eq, List.length_map]
            omega
          · have h1 := (settle_fine hF mr).1
            have h2 := room_nodup (hpf.nodup_iff.mpr hF.nd) r mr
            refine (List.pairwise_and_iff.mpr ⟨h1, h2⟩).imp fun {a b} h => ?_
            have h1 := h.1
            have h2 := h.2
            show b < a
            omega
        · exact hX _ _ ⟨o, us, rs, rfl, T7.more (by omega), hR6.keep k7, hm, hf, hnd⟩
      clear hR6 hm hf hnd hfl T6 k6 T5 k5
      obtain ⟨o, us, rs, rfl, T7, hR7, hm, hf, hnd⟩ := hE
      -- held
      refine ⟨.ref o, rfl, o, rfl, ⟨_, hR7.seq⟩, fun hd nhd => ?_⟩
      have hrl := hm.rooms
      refine lc_it (walk_list (xs := us.map V.ref)) (fun k H8 => Same H7 H8 ∧ ∃ lts, RmsAt H8 (fun z => H7 z = none) hd lts (rs.take k)) ⟨same_new nhd, [], RmsAt.nil upd_same nhd⟩ (fun k H8 _ hW => ?_) (fun k x H8 H9 hk hW hY => ?_) (fun H8 hW => ?_)
      · exact (hR7.same hW.1).seq
      · obtain ⟨sm, lts, hL⟩ := hW
        obtain ⟨rfl, hx⟩ := hY
        obtain ⟨u, r, rfl, _, er, et⟩ := (hR7.same sm).get hx
        refine ⟨rfl, .ref u, rfl, u, _, rfl, .inl (SqL.of et), fun c nc => ?_⟩
        have ncD : hd ≠ c := ne_of_none hL.top nc
        refine ⟨_, by rw [upd_ne ncD]; exact hL.top, ils (by rw [List.length_map, hL.len, List.length_take]; omega), Same.mut (Same.trans sm (same_new nc)) nhd, lts ++ [c], ?_⟩
        rw [take_snoc er]
        exact hL.push nc (sm.free nc)
      obtain ⟨s8, lts, hH8⟩ := hW
      rw [List.length_map, hR7.len, List.take_length] at hH8
      have hR8 := hR7.same s8
      have T8 := T7.keep s8
      have hH8 : RmsAt H8 (Off t g) hd lts rs := hH8.weaken fun z hz => T7.off hz
      -- due
      refine ⟨.ref o, rfl, _, o, us, rs, rfl, hR8, hm, fun H9 s9 => ?_⟩
      -- show_rooms
      have hR9 := hR8.same s9
      refine ⟨.ref o, rfl, _, o, us, rs, rfl, hR9, hm, fun H10 s10 => ?_⟩
      refine ⟨.ref o, rfl, rfl, _, o, us, rs, rfl, hR9.same s10, hm, fun H11 s11 => ?_⟩
      refine ⟨(by show 2 ≤ sizeLine; decide), fun u nu => ?_⟩
      refine ⟨_, rfl, _, rfl, (by show 2 ≤ sizeLine; decide), fun u2 nu2 => ?_⟩
      have eu := upd_same (H := H11) (a := u) (o := .lst [.str (S (roomsT rs)), .str (S (roomsT rs))])
      have su := same_new (o := .lst [.str (S (roomsT rs)), .str (S (roomsT rs))]) nu
      have su2 := same_new (o := .lst [.str (S (roomsT rs)), .str (S (roomsT rs))]) nu2
      refine ⟨.ref u, .ref u2, rfl, Alk.two (su2 _ _ eu) upd_same (Alk.sca rfl) (Alk.sca rfl), fun H12 s12 => ⟨_, rfl, iteF ?_⟩⟩
      have s812 : Same H8 H12 := s9.trans (s10.trans (s11.trans (su.trans (su2.trans s12))))
      -- read_rooms
      refine ⟨_, rfl, rs, rfl, hm, hf, hnd, fun H13 tl us2 s13 hT13 => ?_⟩
      have s813 := s812.trans s13
      refine ⟨.ref tl, rfl, .ref hd, rfl, _, _, rfl, Alk.up (Alk.rows hT13 (hH8.same s813) (by omega) fun r m => by have := hm.room m; omega), fun H14 s14 => ⟨_, rfl, iteF ?_⟩⟩
      have s814 := s813.trans s14
      have new8 : ∀ z, H12 z = none → H8 z = none := fun z hz => s812.free hz
      have hT14 : RmsAt H14 (fun z => H8 z = none) tl us2 rs := (hT13.same s14).weaken new8
      have k14 : Kp (Liv H8 (Off t g)) H8 H14 := .of s814
      have T14 := T8.keep s814
      have hRL := hR8.liv
      have hHL := hH8.liv
      -- for room in told
      have nt8 : H8 tl = none := hT14.bo
      have ot : Off t g tl := T8.off nt8
      refine ⟨.ref tl, rfl, tl, rfl, ⟨_, hT14.seq⟩, ?_⟩
      refine for_it (walk_list (xs := us2.map V.ref)) (fun k σ H15 => ∃ y7 rs', σ = [some (.ref a), some (.ref t), some (.int (0 + (i : Int))), some (.ref o), some (.ref hd), some (.str (S (roomsT rs))), some (.ref tl), y7] ∧ Kp (Liv H8 (Off t g)) H8 H15 ∧ Tray H15 t g (2000 * i + 1200) ∧ RmsAt H15 (fun z => H8 z = none) tl us2 rs' ∧ ∀ r ∈ rs', r.length ≤ 1000 + k) ⟨_, rs, rfl, k14, T14, hT14, fun r m => by have := hm.room m; omega⟩ (fun k σ H15 _ hW => ?_) (fun k x σ H15 H16 hk hW hY => ?_) (fun σ H15 hW => ?_)
      · obtain ⟨_, _, _, _, _, hT, _⟩ := hW
        exact hT.seq
      · obtain ⟨y7', rs', rfl, kp, T15, hT, hrl'⟩ := hW
        obtain ⟨rfl, hx⟩ := hY
        obtain ⟨u3, r, rfl, eu3, er, et⟩ := hT.get hx
        have mr := List.mem_of_getElem? er
        have nu3 := hT.b u3 (List.mem_of_getElem? eu3)
        have hk1 : k < 1000 := by
          rw [List.length_map, hT14.len] at hk
          omega
        have hr1 := hrl' r mr
        refine ⟨.ref u3, rfl, .inl ⟨rfl, _, SqL.of et⟩, u3, _, _, rfl, rfl, et, ils (by rw [List.length_map]; omega), ?_⟩
        have hS := hT.set eu3 (r ++ [0])
        rw [List.map_append] at hS
        refine ⟨_, _, rfl, kp.mut (Liv.no nu3), T15.mut (T8.off nu3), hS, fun q m => ?_⟩
        rcases List.mem_or_eq_of_mem_set m with m | rfl
        · have := hrl' q m
          omega
        · rw [List.length_append, List.length_singleton]
          omega
      · obtain ⟨y7', rs', rfl, kp, T15, hT, _⟩ := hW
        refine ⟨.ref tl, rfl, .inl ⟨rfl, _, hT.seq⟩, Nat.zero_le _, fun e ne => ?_⟩
        have se := same_new (o := .lst []) ne
        refine ⟨tl, _, _, rfl, rfl, se _ _ hT.top, ils (by rw [List.length_map, hT14.len]; omega), ?_⟩
        have k17 : Kp (Liv H8 (Off t g)) H8 (upd (upd H15 e (.lst [])) tl (.lst (us2.map V.ref ++ [.ref e]))) := (kp.trans (.of se)).mut (Liv.no nt8)
        have T17 : Tray (upd (upd H15 e (.lst [])) tl (.lst (us2.map V.ref ++ [.ref e]))) t g (2000 * i + 1200) := (T15.keep se).mut ot
        generalize upd (upd H15 e (.lst [])) tl (.lst (us2.map V.ref ++ [.ref e])) = H17 at k17 T17 ⊢
        refine ⟨_, rfl, rfl, rs, rfl, hm, hf, hnd, fun H18 tl2 us3 s18 hT18 => ?_⟩
        have k18 := k17.trans (.of s18)
        refine ⟨.ref o, rfl, (by show 2 ≤ sizeLine; decide), fun u3 nu3 => ?_⟩
        refine ⟨.ref hd, rfl, .ref hd, rfl, (by show 2 ≤ sizeLine; decide), fun u4 nu4 => ?_⟩
        have su3 := same_new (o := .lst [.ref tl2, .ref o]) nu3
        have su4 := same_new (o := .lst [.ref hd, .ref hd]) nu4
        have k19 := k18.trans (.of (su3.trans su4))
        have hrm : ∀ r ∈ rs, r.length ≤ 100000 := fun r m => by have := hm.room m; omega
        refine ⟨.ref u3, .ref u4, rfl, Alk.two (su4 _ _ upd_same) upd_same (Alk.rows (hT18.same (su3.trans su4)) (hHL.keep k19) (by omega) hrm) (Alk.rows (hRL.keep k19) (hHL.keep k19) (by omega) hrm), fun H20 s20 => ⟨_, rfl, iteF ?_⟩⟩
        exact ⟨_, _, _, _, _, _, rfl, ((T17.keep s18).keep (su3.trans (su4.trans s20))).more (by omega)⟩
    · exact q _
end
end El
namespace El
open PySem PySem.Spec PyProof.Rows L2
theorem all_mk {l : PySem.W.OpenLaw} {w : World} {K : PySem.W.Frag} {h : Heap} {mg : Str → Option Value} {fa f1 f2 f3 f4 f5 f6 f7 f8 f9 f10 f11 f12 f13 f14 f15 f16 f17 f18 f19 : Addr} (X : K.In h) (G : h.Ns mainGlobals mg) (hfa : mg "law" = some (.ref fa))
    {od1 an1 od2 an2 od3 an3 od4 an4 od5 an5 od6 an6 od7 an7 od8 an8 od9 an9 od10 an10 od11 an11 od12 an12 od13 an13 od14 an14 od15 an15 od16 an16 od17 an17 od18 an18 od19 an19 : Option Addr} {sl1 sl2 sl3 sl4 sl5 sl6 sl7 sl8 sl9 sl10 sl11 sl12 sl13 sl14 sl15 sl16 sl17 sl18 sl19 : Array (Option Value)} {oc1 kV1 dc1 pm1 cd1 ct1 oc2 kV2 dc2 pm2 cd2 ct2 oc3 kV3 dc3 pm3 cd3 ct3 oc4 kV4 dc4 pm4 cd4 ct4 oc5 kV5 dc5 pm5 cd5 ct5 oc6 kV6 dc6 pm6 cd6 ct6 oc7 kV7 dc7 pm7 cd7 ct7 oc8 kV8 dc8 pm8 cd8 ct8 oc9 kV9 dc9 pm9 cd9 ct9 oc10 kV10 dc10 pm10 cd10 ct10 oc11 kV11 dc11 pm11 cd11 ct11 oc12 kV12 dc12 pm12 cd12 ct12 oc13 kV13 dc13 pm13 cd13 ct13 oc14 kV14 dc14 pm14 cd14 ct14 oc15 kV15 dc15 pm15 cd15 ct15 oc16 kV16 dc16 pm16 cd16 ct16 oc17 kV17 dc17 pm17 cd17 ct17 oc18 kV18 dc18 pm18 cd18 ct18 oc19 kV19 dc19 pm19 cd19 ct19 : Value}
    (a1 : PySem.W.nsIn K mainGlobals "show_rooms" = some (some (.ref f1))) (l1 : K.lookup f1 = some ⟨oc1, od1, .func (PySem.W.fnOf "show_rooms" "show_rooms" (defArgs s_show_rooms) (defBody s_show_rooms) (defScope s_show_rooms) .none kV1 dc1 pm1 an1 cd1 ct1), sl1⟩) (c1 : PySem.W.codeIn K cd1 "show_rooms" = true) (k1 : PySem.W.keepIn K (.ref f1) = true)
    (a2 : PySem.W.nsIn K mainGlobals "patience_by_age" = some (some (.ref f2))) (l2 : K.lookup f2 = some ⟨oc2, od2, .func (PySem.W.fnOf "patience_by_age" "patience_by_age" (defArgs s_patience_by_age) (defBody s_patience_by_age) (defScope s_patience_by_age) .none kV2 dc2 pm2 an2 cd2 ct2), sl2⟩) (c2 : PySem.W.codeIn K cd2 "patience_by_age" = true) (k2 : PySem.W.keepIn K (.ref f2) = true)
    (a3 : PySem.W.nsIn K mainGlobals "is_number" = some (some (.ref f3))) (l3 : K.lookup f3 = some ⟨oc3, od3, .func (PySem.W.fnOf "is_number" "is_number" (defArgs s_is_number) (defBody s_is_number) (defScope s_is_number) .none kV3 dc3 pm3 an3 cd3 ct3), sl3⟩) (c3 : PySem.W.codeIn K cd3 "is_number" = true) (k3 : PySem.W.keepIn K (.ref f3) = true)
    (a4 : PySem.W.nsIn K mainGlobals "read_numbers" = some (some (.ref f4))) (l4 : K.lookup f4 = some ⟨oc4, od4, .func (PySem.W.fnOf "read_numbers" "read_numbers" (defArgs s_read_numbers) (defBody s_read_numbers) (defScope s_read_numbers) .none kV4 dc4 pm4 an4 cd4 ct4), sl4⟩) (c4 : PySem.W.codeIn K cd4 "read_numbers" = true) (k4 : PySem.W.keepIn K (.ref f4) = true)
    (a5 : PySem.W.nsIn K mainGlobals "parts_of" = some (some (.ref f5))) (l5 : K.lookup f5 = some ⟨oc5, od5, .func (PySem.W.fnOf "parts_of" "parts_of" (defArgs s_parts_of) (defBody s_parts_of) (defScope s_parts_of) .none kV5 dc5 pm5 an5 cd5 ct5), sl5⟩) (c5 : PySem.W.codeIn K cd5 "parts_of" = true) (k5 : PySem.W.keepIn K (.ref f5) = true)
    (a6 : PySem.W.nsIn K mainGlobals "falls" = some (some (.ref f6))) (l6 : K.lookup f6 = some ⟨oc6, od6, .func (PySem.W.fnOf "falls" "falls" (defArgs s_falls) (defBody s_falls) (defScope s_falls) .none kV6 dc6 pm6 an6 cd6 ct6), sl6⟩) (c6 : PySem.W.codeIn K cd6 "falls" = true) (k6 : PySem.W.keepIn K (.ref f6) = true)
    (a7 : PySem.W.nsIn K mainGlobals "read_rooms" = some (some (.ref f7))) (l7 : K.lookup f7 = some ⟨oc7, od7, .func (PySem.W.fnOf "read_rooms" "read_rooms" (defArgs s_read_rooms) (defBody s_read_rooms) (defScope s_read_rooms) .none kV7 dc7 pm7 an7 cd7 ct7), sl7⟩) (c7 : PySem.W.codeIn K cd7 "read_rooms" = true) (k7 : PySem.W.keepIn K (.ref f7) = true)
    (a8 : PySem.W.nsIn K mainGlobals "first_borne" = some (some (.ref f8))) (l8 : K.lookup f8 = some ⟨oc8, od8, .func (PySem.W.fnOf "first_borne" "first_borne" (defArgs s_first_borne) (defBody s_first_borne) (defScope s_first_borne) .none kV8 dc8 pm8 an8 cd8 ct8), sl8⟩) (c8 : PySem.W.codeIn K cd8 "first_borne" = true) (k8 : PySem.W.keepIn K (.ref f8) = true)
    (a9 : PySem.W.nsIn K mainGlobals "rooms" = some (some (.ref f9))) (l9 : K.lookup f9 = some ⟨oc9, od9, .func (PySem.W.fnOf "rooms" "rooms" (defArgs s_rooms) (defBody s_rooms) (defScope s_rooms) .none kV9 dc9 pm9 an9 cd9 ct9), sl9⟩) (c9 : PySem.W.codeIn K cd9 "rooms" = true) (k9 : PySem.W.keepIn K (.ref f9) = true)
    (a10 : PySem.W.nsIn K mainGlobals "_law_tray" = some (some (.ref f10))) (l10 : K.lookup f10 = some ⟨oc10, od10, .func (PySem.W.fnOf "_law_tray" "_law_tray" (defArgs s__law_tray) (defBody s__law_tray) (defScope s__law_tray) .none kV10 dc10 pm10 an10 cd10 ct10), sl10⟩) (c10 : PySem.W.codeIn K cd10 "_law_tray" = true) (k10 : PySem.W.keepIn K (.ref f10) = true)
    (a11 : PySem.W.nsIn K mainGlobals "_law_draw" = some (some (.ref f11))) (l11 : K.lookup f11 = some ⟨oc11, od11, .func (PySem.W.fnOf "_law_draw" "_law_draw" (defArgs s__law_draw) (defBody s__law_draw) (defScope s__law_draw) .none kV11 dc11 pm11 an11 cd11 ct11), sl11⟩) (c11 : PySem.W.codeIn K cd11 "_law_draw" = true) (k11 : PySem.W.keepIn K (.ref f11) = true)
    (a12 : PySem.W.nsIn K mainGlobals "_law_alike" = some (some (.ref f12))) (l12 : K.lookup f12 = some ⟨oc12, od12, .func (PySem.W.fnOf "_law_alike" "_law_alike" (defArgs s__law_alike) (defBody s__law_alike) (defScope s__law_alike) .none kV12 dc12 pm12 an12 cd12 ct12), sl12⟩) (c12 : PySem.W.codeIn K cd12 "_law_alike" = true) (k12 : PySem.W.keepIn K (.ref f12) = true)
    (a13 : PySem.W.nsIn K mainGlobals "_law_shuffled" = some (some (.ref f13))) (l13 : K.lookup f13 = some ⟨oc13, od13, .func (PySem.W.fnOf "_law_shuffled" "_law_shuffled" (defArgs s__law_shuffled) (defBody s__law_shuffled) (defScope s__law_shuffled) .none kV13 dc13 pm13 an13 cd13 ct13), sl13⟩) (c13 : PySem.W.codeIn K cd13 "_law_shuffled" = true) (k13 : PySem.W.keepIn K (.ref f13) = true)
    (a14 : PySem.W.nsIn K mainGlobals "_law_ages" = some (some (.ref f14))) (l14 : K.lookup f14 = some ⟨oc14, od14, .func (PySem.W.fnOf "_law_ages" "_law_ages" (defArgs s__law_ages) (defBody s__law_ages) (defScope s__law_ages) .none kV14 dc14 pm14 an14 cd14 ct14), sl14⟩) (c14 : PySem.W.codeIn K cd14 "_law_ages" = true) (k14 : PySem.W.keepIn K (.ref f14) = true)
    (a15 : PySem.W.nsIn K mainGlobals "_law_patience" = some (some (.ref f15))) (l15 : K.lookup f15 = some ⟨oc15, od15, .func (PySem.W.fnOf "_law_patience" "_law_patience" (defArgs s__law_patience) (defBody s__law_patience) (defScope s__law_patience) .none kV15 dc15 pm15 an15 cd15 ct15), sl15⟩) (c15 : PySem.W.codeIn K cd15 "_law_patience" = true) (k15 : PySem.W.keepIn K (.ref f15) = true)
    (a16 : PySem.W.nsIn K mainGlobals "_law_guests" = some (some (.ref f16))) (l16 : K.lookup f16 = some ⟨oc16, od16, .func (PySem.W.fnOf "_law_guests" "_law_guests" (defArgs s__law_guests) (defBody s__law_guests) (defScope s__law_guests) .none kV16 dc16 pm16 an16 cd16 ct16), sl16⟩) (c16 : PySem.W.codeIn K cd16 "_law_guests" = true) (k16 : PySem.W.keepIn K (.ref f16) = true)
    (a17 : PySem.W.nsIn K mainGlobals "_law_line" = some (some (.ref f17))) (l17 : K.lookup f17 = some ⟨oc17, od17, .func (PySem.W.fnOf "_law_line" "_law_line" (defArgs s__law_line) (defBody s__law_line) (defScope s__law_line) .none kV17 dc17 pm17 an17 cd17 ct17), sl17⟩) (c17 : PySem.W.codeIn K cd17 "_law_line" = true) (k17 : PySem.W.keepIn K (.ref f17) = true)
    (a18 : PySem.W.nsIn K mainGlobals "_law_rooms_written" = some (some (.ref f18))) (l18 : K.lookup f18 = some ⟨oc18, od18, .func (PySem.W.fnOf "_law_rooms_written" "_law_rooms_written" (defArgs s__law_rooms_written) (defBody s__law_rooms_written) (defScope s__law_rooms_written) .none kV18 dc18 pm18 an18 cd18 ct18), sl18⟩) (c18 : PySem.W.codeIn K cd18 "_law_rooms_written" = true) (k18 : PySem.W.keepIn K (.ref f18) = true)
    (a19 : PySem.W.nsIn K mainGlobals "law" = some (some (.ref f19))) (l19 : K.lookup f19 = some ⟨oc19, od19, .func (PySem.W.fnOf "law" "law" (defArgs s_law) (defBody s_law) (defScope s_law) .none kV19 dc19 pm19 an19 cd19 ct19), sl19⟩) (c19 : PySem.W.codeIn K cd19 "law" = true) (k19 : PySem.W.keepIn K (.ref f19) = true)
    {tMF : Tok}
    (gMF : PySem.W.nsIn K mainGlobals "MOST_FIGURES" = some (some (.int 30 tMF)))
    (z1 : PySem.W.nsIn K mainGlobals "len" = some none) (z2 : PySem.W.nsIn K mainGlobals "range" = some none) (z3 : PySem.W.nsIn K mainGlobals "enumerate" = some none) (z4 : PySem.W.nsIn K mainGlobals "sorted" = some none) (z5 : PySem.W.nsIn K mainGlobals "sum" = some none) (z6 : PySem.W.nsIn K mainGlobals "min" = some none) (z7 : PySem.W.nsIn K mainGlobals "max" = some none) (z8 : PySem.W.nsIn K mainGlobals "isinstance" = some none) (z9 : PySem.W.nsIn K mainGlobals "zip" = some none) (z10 : PySem.W.nsIn K mainGlobals "list" = some none) (z11 : PySem.W.nsIn K mainGlobals "tuple" = some none) (z12 : PySem.W.nsIn K mainGlobals "int" = some none) (z13 : PySem.W.nsIn K mainGlobals "bool" = some none) (z14 : PySem.W.nsIn K mainGlobals "str" = some none) (z15 : PySem.W.nsIn K mainGlobals "abs" = some none) (z16 : PySem.W.nsIn K mainGlobals "repr" = some none) (z17 : PySem.W.nsIn K mainGlobals "dict" = some none) (z18 : PySem.W.nsIn K mainGlobals "any" = some none) (z19 : PySem.W.nsIn K mainGlobals "all" = some none) (z20 : PySem.W.nsIn K mainGlobals "set" = some none) (z21 : PySem.W.nsIn K mainGlobals "reversed" = some none) (z22 : PySem.W.nsIn K mainGlobals "ValueError" = some none) (z23 : PySem.W.nsIn K mainGlobals "divmod" = some none) :
    ∃ fd : FuncData, (∀ (s : Shared) (v : Value), BindsTo s fd ⟨[v], []⟩ [("script", v)]) ∧ ∀ base : Heap, K.In base → base.Ns mainGlobals mg → FnOk l.prog w K mg base CX0 5 fa fd ["script"] (sp_law K) := by
  obtain rfl : f19 = fa := by
    have e := (PySem.W.mg_of X G a19).symm.trans hfa
    injection e with e
    injection e
  have B : Bi mg := ⟨PySem.W.mg_none_of X G z1, PySem.W.mg_none_of X G z2, PySem.W.mg_none_of X G z3, PySem.W.mg_none_of X G z4, PySem.W.mg_none_of X G z5, PySem.W.mg_none_of X G z6, PySem.W.mg_none_of X G z7, PySem.W.mg_none_of X G z8, PySem.W.mg_none_of X G z9, PySem.W.mg_none_of X G z10, PySem.W.mg_none_of X G z11, PySem.W.mg_none_of X G z12, PySem.W.mg_none_of X G z13, PySem.W.mg_none_of X G z14, PySem.W.mg_none_of X G z15, PySem.W.mg_none_of X G z16, PySem.W.mg_none_of X G z17, PySem.W.mg_none_of X G z18, PySem.W.mg_none_of X G z19, PySem.W.mg_none_of X G z20, PySem.W.mg_none_of X G z21, PySem.W.mg_none_of X G z22, PySem.W.mg_none_of X G z23⟩
  have A1 : At K mg "show_rooms" P_show_rooms s_show_rooms := .mk' X G a1 l1 c1 k1 fun _ _ _ _ _ _ us hl => match us, hl with | [_], _ => rfl
  have A2 : At K mg "patience_by_age" P_patience_by_age s_patience_by_age := .mk' X G a2 l2 c2 k2 fun _ _ _ _ _ _ us hl => match us, hl with | [_], _ => rfl
  have A3 : At K mg "is_number" P_is_number s_is_number := .mk' X G a3 l3 c3 k3 fun _ _ _ _ _ _ us hl => match us, hl with | [_], _ => rfl
  have A4 : At K mg "read_numbers" P_read_numbers s_read_numbers := .mk' X G a4 l4 c4 k4 fun _ _ _ _ _ _ us hl => match us, hl with | [_, _, _], _ => rfl
  have A5 : At K mg "parts_of" P_parts_of s_parts_of := .mk' X G a5 l5 c5 k5 fun _ _ _ _ _ _ us hl => match us, hl with | [_, _], _ => rfl
  have A6 : At K mg "falls" P_falls s_falls := .mk' X G a6 l6 c6 k6 fun _ _ _ _ _ _ us hl => match us, hl with | [_], _ => rfl
  have A7 : At K mg "read_rooms" P_read_rooms s_read_rooms := .mk' X G a7 l7 c7 k7 fun _ _ _ _ _ _ us hl => match us, hl with | [_], _ => rfl
  have A8 : At K mg "first_borne" P_first_borne s_first_borne := .mk' X G a8 l8 c8 k8 fun _ _ _ _ _ _ us hl => match us, hl with | [_, _], _ => rfl
  have A9 : At K mg "rooms" P_rooms s_rooms := .mk' X G a9 l9 c9 k9 fun _ _ _ _ _ _ us hl => match us, hl with | [_], _ => rfl
  have A10 : At K mg "_law_tray" P__law_tray s__law_tray := .mk' X G a10 l10 c10 k10 fun _ _ _ _ _ _ us hl => match us, hl with | [_], _ => rfl
  have A11 : At K mg "_law_draw" P__law_draw s__law_draw := .mk' X G a11 l11 c11 k11 fun _ _ _ _ _ _ us hl => match us, hl with | [_, _], _ => rfl
  have A12 : At K mg "_law_alike" P__law_alike s__law_alike := .mk' X G a12 l12 c12 k12 fun _ _ _ _ _ _ us hl => match us, hl with | [_, _], _ => rfl
  have A13 : At K mg "_law_shuffled" P__law_shuffled s__law_shuffled := .mk' X G a13 l13 c13 k13 fun _ _ _ _ _ _ us hl => match us, hl with | [_, _], _ => rfl
  have A14 : At K mg "_law_ages" P__law_ages s__law_ages := .mk' X G a14 l14 c14 k14 fun _ _ _ _ _ _ us hl => match us, hl with | [_, _], _ => rfl
  have A15 : At K mg "_law_patience" P__law_patience s__law_patience := .mk' X G a15 l15 c15 k15 fun _ _ _ _ _ _ us hl => match us, hl with | [_, _, _], _ => rfl
  have A16 : At K mg "_law_guests" P__law_guests s__law_guests := .mk' X G a16 l16 c16 k16 fun _ _ _ _ _ _ us hl => match us, hl with | [_, _], _ => rfl
  have A17 : At K mg "_law_line" P__law_line s__law_line := .mk' X G a17 l17 c17 k17 fun _ _ _ _ _ _ us hl => match us, hl with | [_, _], _ => rfl
  have A18 : At K mg "_law_rooms_written" P__law_rooms_written s__law_rooms_written := .mk' X G a18 l18 c18 k18 fun _ _ _ _ _ _ us hl => match us, hl with | [_], _ => rfl
  have A19 : At K mg "law" P_law s_law := .mk' X G a19 l19 c19 k19 fun _ _ _ _ _ _ us hl => match us, hl with | [_], _ => rfl
  refine ⟨PySem.W.fnOf "law" "law" (defArgs s_law) (defBody s_law) (defScope s_law) .none kV19 dc19 pm19 an19 cd19 ct19, fun s v => .of_eq rfl, fun base _ _ => ?_⟩
  have G_MOST_FIGURES := PySem.W.mg_of X G gMF
  have D_show_rooms := ok_show_rooms (P := l.prog) (w := w) (base := base) A1 B
  have D_patience_by_age := ok_patience_by_age (P := l.prog) (w := w) (base := base) A2 B
  have D_is_number := ok_is_number (P := l.prog) (w := w) (base := base) A3 B G_MOST_FIGURES
  have D_read_numbers := ok_read_numbers (P := l.prog) (w := w) (base := base) A4 B D_is_number
  have D_parts_of := ok_parts_of (P := l.prog) (w := w) (base := base) A5 B
  have D_falls := ok_falls (P := l.prog) (w := w) (base := base) A6 B
  have D_read_rooms := ok_read_rooms (P := l.prog) (w := w) (base := base) A7 B D_parts_of D_read_numbers D_falls
  have D_first_borne := ok_first_borne (P := l.prog) (w := w) (base := base) A8 B
  have D_rooms := ok_rooms (P := l.prog) (w := w) (base := base) A9 B D_patience_by_age D_first_borne
  have D__law_tray := ok__law_tray (P := l.prog) (w := w) (base := base) A10 B
  have D__law_draw := ok__law_draw (P := l.prog) (w := w) (base := base) A11 B
  have D__law_alike := ok__law_alike (P := l.prog) (w := w) (base := base) A12 B 3
  have D__law_shuffled := ok__law_shuffled (P := l.prog) (w := w) (base := base) A13 B D__law_draw
  have D__law_ages := ok__law_ages (P := l.prog) (w := w) (base := base) A14 B D__law_draw D__law_shuffled
  have D__law_patience := ok__law_patience (P := l.prog) (w := w) (base := base) A15 B D__law_draw
  have D__law_guests := ok__law_guests (P := l.prog) (w := w) (base := base) A16 B D__law_draw D__law_ages D__law_patience
  have D__law_line := ok__law_line (P := l.prog) (w := w) (base := base) A17 B D__law_draw D__law_ages
  have D__law_rooms_written := ok__law_rooms_written (P := l.prog) (w := w) (base := base) A18 B
  have D_law := ok_law (P := l.prog) (w := w) (base := base) A19 B D__law_tray D__law_draw D__law_line D__law_guests D_rooms D__law_rooms_written D_show_rooms D_read_rooms D__law_alike
  exact D_law.at hfa l19
end El
open PySem PySem.W PyProof.Rows
set_option maxRecDepth 100000 in
set_option maxHeartbeats 0 in
theorem PySem.Challenge.cw_elderinn_k52_rooms_written_holds : PySem.Challenge.rw_elderinn_k52_rooms_written.Holds := by
  w_on; o_law; k_head; (case hw => w_witness2)
  k_fill
  refine L2.walk_of (l := PySem.Challenge.rw_elderinn_k52_rooms_written) (n := 63) (k := 5) (x := "script") (CX := fun _ => L2.CX0) (sp := fun w => El.sp_law _) rfl (by decide) rfl ⟨rfl, by decide, by decide⟩ (fun w h Y => PySem.W.kIn_of Y) ?F (fun _ _ a ns hl _ hS => ⟨a, ns, rfl, hS, hl, fun _ => rfl⟩) (fun _ _ _ _ _ h => h)
  case F =>
    intro w mg fa h KX G hmg
    refine' El.all_mk KX G hmg ?a1 ?l1 ?c1 ?k1 ?a2 ?l2 ?c2 ?k2 ?a3 ?l3 ?c3 ?k3 ?a4 ?l4 ?c4 ?k4 ?a5 ?l5 ?c5 ?k5 ?a6 ?l6 ?c6 ?k6 ?a7 ?l7 ?c7 ?k7 ?a8 ?l8 ?c8 ?k8 ?a9 ?l9 ?c9 ?k9 ?a10 ?l10 ?c10 ?k10 ?a11 ?l11 ?c11 ?k11 ?a12 ?l12 ?c12 ?k12 ?a13 ?l13 ?c13 ?k13 ?a14 ?l14 ?c14 ?k14 ?a15 ?l15 ?c15 ?k15 ?a16 ?l16 ?c16 ?k16 ?a17 ?l17 ?c17 ?k17 ?a18 ?l18 ?c18 ?k18 ?a19 ?l19 ?c19 ?k19 ?gMF ?z1 ?z2 ?z3 ?z4 ?z5 ?z6 ?z7 ?z8 ?z9 ?z10 ?z11 ?z12 ?z13 ?z14 ?z15 ?z16 ?z17 ?z18 ?z19 ?z20 ?z21 ?z22 ?z23
    (case a1 => k_is)
    (case l1 => k_is)
    (case c1 => k_is)
    (case k1 => k_is)
    (case a2 => k_is)
    (case l2 => k_is)
    (case c2 => k_is)
    (case k2 => k_is)
    (case a3 => k_is)
    (case l3 => k_is)
    (case c3 => k_is)
    (case k3 => k_is)
    (case a4 => k_is)
    (case l4 => k_is)
    (case c4 => k_is)
    (case k4 => k_is)
    (case a5 => k_is)
    (case l5 => k_is)
    (case c5 => k_is)
    (case k5 => k_is)
    (case a6 => k_is)
    (case l6 => k_is)
    (case c6 => k_is)
    (case k6 => k_is)
    (case a7 => k_is)
    (case l7 => k_is)
    (case c7 => k_is)
    (case k7 => k_is)
    (case a8 => k_is)
    (case l8 => k_is)
    (case c8 => k_is)
    (case k8 => k_is)
    (case a9 => k_is)
    (case l9 => k_is)
    (case c9 => k_is)
    (case k9 => k_is)
    (case a10 => k_is)
    (case l10 => k_is)
    (case c10 => k_is)
    (case k10 => k_is)
    (case a11 => k_is)
    (case l11 => k_is)
    (case c11 => k_is)
    (case k11 => k_is)
    (case a12 => k_is)
    (case l12 => k_is)
    (case c12 => k_is)
    (case k12 => k_is)
    (case a13 => k_is)
    (case l13 => k_is)
    (case c13 => k_is)
    (case k13 => k_is)
    (case a14 => k_is)
    (case l14 => k_is)
    (case c14 => k_is)
    (case k14 => k_is)
    (case a15 => k_is)
    (case l15 => k_is)
    (case c15 => k_is)
    (case k15 => k_is)
    (case a16 => k_is)
    (case l16 => k_is)
    (case c16 => k_is)
    (case k16 => k_is)
    (case a17 => k_is)
    (case l17 => k_is)
    (case c17 => k_is)
    (case k17 => k_is)
    (case a18 => k_is)
    (case l18 => k_is)
    (case c18 => k_is)
    (case k18 => k_is)
    (case a19 => k_is)
    (case l19 => k_is)
    (case c19 => k_is)
    (case k19 => k_is)
    (case gMF => k_is)
    (case z1 => k_is)
    (case z2 => k_is)
    (case z3 => k_is)
    (case z4 => k_is)
    (case z5 => k_is)
    (case z6 => k_is)
    (case z7 => k_is)
    (case z8 => k_is)
    (case z9 => k_is)
    (case z10 => k_is)
    (case z11 => k_is)
    (case z12 => k_is)
    (case z13 => k_is)
    (case z14 => k_is)
    (case z15 => k_is)
    (case z16 => k_is)
    (case z17 => k_is)
    (case z18 => k_is)
    (case z19 => k_is)
    (case z20 => k_is)
    (case z21 => k_is)
    (case z22 => k_is)
    (case z23 => k_is)
