import PyProof.Rows.All
import Wide.All
import OpenK.AllK
import Wide.FinOn
import HandS.ForMost
import HandS.ForExc
import HandS.Wide
import HandS.SortKw
import HandS.SortRule
import HandS.SortInts
import HandS.Style
import HandS.IsInst
import HandS.Conv
import HandS.Walk
import HandS.Flow
import HandS.More
import HandS.Defaults
import HandS.RaiseMore
import HandS.Remove
import HandS.Star
import HandS.Steps
import HandS.ClsMeth
import HandS.DictComp
import HandS.ExcField
import HandS.ExcInit
import HandS.ExcIs
import HandS.ExcValue
import HandS.FStr
import HandS.FStrTup
import HandS.ListItems
import HandS.SetFor
import HandS.Star
import HandS.Strs
import HandS.Wide
import HandS.WideBits
import HandS.Zip
import KE.DatumOrd
import KE.GoesEnum
import KE.KDictZip
import KE.KExcIs
import PySem.Challenge.RW_elderinn_k13_inns_refused
set_option Elab.async false
set_option linter.all false
set_option maxRecDepth 100000
set_option maxHeartbeats 8000000
namespace El
/-! ### the rule by age, in plain lists -/
def place : List (List Int) → Int → Int → List (List Int)
  | [], a, _ => [[a]]
  | r :: rs, a, p => if (r.length : Int) ≤ p then (r ++ [a]) :: rs else r :: place rs a p
def firstB : List (List Int) → Int → Nat
  | [], _ => 0
  | r :: rs, p => if (r.length : Int) ≤ p then 0 else firstB rs p + 1
theorem firstB_le : ∀ (rs : List (List Int)) (p : Int), firstB rs p ≤ rs.length
  | [], _ => Nat.le_refl _
  | r :: rs, p => by
    unfold firstB
    split
    · exact Nat.zero_le _
    · exact Nat.succ_le_succ (firstB_le rs p)
theorem firstB_out : ∀ (rs : List (List Int)) (p : Int) (i : Nat) (r : List Int), i < firstB rs p → rs[i]? = some r → p < (r.length : Int)
  | [], _, _, _, h, _ => absurd h (Nat.not_lt_zero _)
  | s :: rs, p, i, r, h, e => by
    unfold firstB at h
    split at h
    · exact absurd h (Nat.not_lt_zero _)
    · rename_i hn
      cases i with
      | zero =>
        have e' : s = r := Option.some.inj e
        subst e'
        omega
      | succ i => exact firstB_out rs p i r (Nat.lt_of_succ_lt_succ h) (by simpa using e)
theorem firstB_in : ∀ (rs : List (List Int)) (p : Int), firstB rs p < rs.length → ∃ r, rs[firstB rs p]? = some r ∧ (r.length : Int) ≤ p
  | [], _, h => absurd h (Nat.not_lt_zero _)
  | s :: rs, p, h => by
    unfold firstB at h ⊢
    split
    · rename_i hn
      exact ⟨s, rfl, hn⟩
    · rename_i hn
      rw [if_neg hn] at h
      obtain ⟨r, e, q⟩ := firstB_in rs p (Nat.lt_of_succ_lt_succ h)
      exact ⟨r, by simpa using e, q⟩
theorem firstB_is : ∀ (rs : List (List Int)) (p : Int) (i : Nat), i ≤ rs.length → (∀ j r, j < i → rs[j]? = some r → p < (r.length : Int)) → (∀ r, rs[i]? = some r → (r.length : Int) ≤ p) → firstB rs p = i
  | [], _, i, h, _, _ => by
    have : i = 0 := Nat.le_zero.mp h
    subst this
    rfl
  | s :: rs, p, 0, _, _, h2 => by
    unfold firstB
    rw [if_pos (h2 s rfl)]
  | s :: rs, p, i + 1, h, h1, h2 => by
    have h0 := h1 0 s (Nat.succ_pos _) rfl
    unfold firstB
    rw [if_neg (by omega), firstB_is rs p i (Nat.le_of_succ_le_succ h) (fun j r hj e => h1 (j + 1) r (Nat.succ_lt_succ hj) (by simpa using e)) fun r e => h2 r (by simpa using e)]
theorem place_new : ∀ (rs : List (List Int)) (a p : Int), firstB rs p = rs.length → place rs a p = rs ++ [[a]]
  | [], _, _, _ => rfl
  | r :: rs, a, p, h => by
    unfold firstB at h
    unfold place
    split at h
    · exact absurd h (by rw [List.length_cons]; omega)
    · rename_i hn
      rw [if_neg hn, place_new rs a p (by rw [List.length_cons] at h; omega)]
      rfl
theorem place_at : ∀ (rs : List (List Int)) (a p : Int) (r : List Int), rs[firstB rs p]? = some r → place rs a p = rs.set (firstB rs p) (r ++ [a])
  | [], _, _, _, h => by simp at h
  | s :: rs, a, p, r, h => by
    unfold firstB at h ⊢
    unfold place
    split
    · rename_i hn
      rw [if_pos hn] at h
      have e : s = r := Option.some.inj h
      subst e
      rfl
    · rename_i hn
      rw [if_neg hn] at h
      rw [place_at rs a p r (by simpa using h)]
      rfl
theorem place_len (rs : List (List Int)) (a p : Int) : (place rs a p).length = if firstB rs p = rs.length then rs.length + 1 else rs.length := by
  by_cases h : firstB rs p = rs.length
  · rw [if_pos h, place_new rs a p h, List.length_append]
    rfl
  · have hl := firstB_le rs p
    obtain ⟨r, e, _⟩ := firstB_in rs p (by omega)
    rw [if_neg h, place_at rs a p r e, List.length_set]
/-- all in order -/
def settleL (gs : List (Int × Int)) : List (List Int) := gs.foldl (fun rs g => place rs g.1 g.2) []
theorem settleL_snoc (gs : List (Int × Int)) (g : Int × Int) : settleL (gs ++ [g]) = place (settleL gs) g.1 g.2 := by
  unfold settleL
  rw [List.foldl_append]
  rfl
theorem settleL_take {gs : List (Int × Int)} {i : Nat} {g : Int × Int} (h : gs[i]? = some g) : settleL (gs.take (i + 1)) = place (settleL (gs.take i)) g.1 g.2 := by
  rw [List.take_add_one, h]
  exact settleL_snoc _ _
theorem place_count (rs : List (List Int)) (a p : Int) : (place rs a p).flatten.length = rs.flatten.length + 1 := by
  induction rs with
  | nil => rfl
  | cons r rs ih =>
    unfold place
    split
    · simp only [List.flatten_cons, List.length_append, List.length_cons, List.length_nil]
      omega
    · simp only [List.flatten_cons, List.length_append]
      omega
theorem settleL_count (gs : List (Int × Int)) : (settleL gs).flatten.length = gs.length := by
  suffices h : ∀ (gs : List (Int × Int)) (rs : List (List Int)), (gs.foldl (fun rs g => place rs g.1 g.2) rs).flatten.length = rs.flatten.length + gs.length by
    have q := h gs []
    rw [List.flatten_nil, List.length_nil, Nat.zero_add] at q
    exact q
  intro gs
  induction gs with
  | nil => intro rs; rfl
  | cons g gs ih =>
    intro rs
    rw [List.foldl_cons, ih, place_count, List.length_cons]
    omega
theorem place_ne (rs : List (List Int)) (a p : Int) (h : ∀ r ∈ rs, r ≠ []) : ∀ r ∈ place rs a p, r ≠ [] := by
  induction rs with
  | nil =>
    intro r hr
    rw [List.mem_singleton.mp hr]
    exact List.cons_ne_nil _ _
  | cons s rs ih =>
    unfold place
    split
    · intro r hr
      rcases List.mem_cons.mp hr with e | hr
      · rw [e]
        simp
      · exact h r (List.mem_cons_of_mem _ hr)
    · intro r hr
      rcases List.mem_cons.mp hr with e | hr
      · rw [e]
        exact h s List.mem_cons_self
      · exact ih (fun r hr => h r (List.mem_cons_of_mem _ hr)) r hr
theorem settleL_ne (gs : List (Int × Int)) : ∀ r ∈ settleL gs, r ≠ [] := by
  suffices h : ∀ (gs : List (Int × Int)) (rs : List (List Int)), (∀ r ∈ rs, r ≠ []) → ∀ r ∈ gs.foldl (fun rs g => place rs g.1 g.2) rs, r ≠ [] from h gs [] (fun r hr => absurd hr (by simp))
  intro gs
  induction gs with
  | nil => intro rs h; exact h
  | cons g gs ih =>
    intro rs h
    rw [List.foldl_cons]
    exact ih _ (place_ne rs _ _ h)
theorem len_le_flat : ∀ (rs : List (List Int)), (∀ r ∈ rs, r ≠ []) → rs.length ≤ rs.flatten.length
  | [], _ => Nat.le_refl _
  | r :: rs, h => by
    have h1 := h r List.mem_cons_self
    have h2 := len_le_flat rs fun r hr => h r (List.mem_cons_of_mem _ hr)
    have h3 : 0 < r.length := List.length_pos_iff.mpr h1
    rw [List.flatten_cons, List.length_append, List.length_cons]
    omega
theorem room_le_flat : ∀ (rs : List (List Int)) (r : List Int), r ∈ rs → r.length ≤ rs.flatten.length
  | s :: rs, r, h => by
    rw [List.flatten_cons, List.length_append]
    rcases List.mem_cons.mp h with e | h
    · rw [e]
      omega
    · have := room_le_flat rs r h
      omega
theorem settleL_len (gs : List (Int × Int)) : (settleL gs).length ≤ gs.length := by
  rw [← settleL_count gs]
  exact len_le_flat _ (settleL_ne gs)
theorem settleL_room {gs : List (Int × Int)} {r : List Int} (h : r ∈ settleL gs) : r.length ≤ gs.length := by
  rw [← settleL_count gs]
  exact room_le_flat _ _ h
/-- sizes never rise -/
def Falls (rs : List (List Int)) : Prop := rs.Pairwise fun r s => s.length ≤ r.length
theorem place_mem {rs : List (List Int)} {a p : Int} {r : List Int} (h : r ∈ place rs a p) : r ∈ rs ∨ (∃ s ∈ rs, r = s ++ [a] ∧ (s.length : Int) ≤ p) ∨ r = [a] := by
  induction rs with
  | nil => exact .inr (.inr (List.mem_singleton.mp h))
  | cons s rs ih =>
    unfold place at h
    split at h
    · rename_i hn
      rcases List.mem_cons.mp h with e | h
      · exact .inr (.inl ⟨s, List.mem_cons_self, e, hn⟩)
      · exact .inl (List.mem_cons_of_mem _ h)
    · rcases List.mem_cons.mp h with e | h
      · rw [e]
        exact .inl List.mem_cons_self
      · rcases ih h with q | ⟨t, ht, q⟩ | q
        · exact .inl (List.mem_cons_of_mem _ q)
        · exact .inr (.inl ⟨t, List.mem_cons_of_mem _ ht, q⟩)
        · exact .inr (.inr q)
theorem place_falls (rs : List (List Int)) (a p : Int) (hp : 0 ≤ p) (h : Falls rs) : Falls (place rs a p) := by
  induction rs with
  | nil => exact List.pairwise_singleton _ _
  | cons s rs ih =>
    obtain ⟨h1, h2⟩ := List.pairwise_cons.mp h
    unfold place
    split
    · refine List.pairwise_cons.mpr ⟨fun r hr => ?_, h2⟩
      have := h1 r hr
      rw [List.length_append]
      omega
    · rename_i hn
      refine List.pairwise_cons.mpr ⟨fun r hr => ?_, ih h2⟩
      rcases place_mem hr with q | ⟨t, ht, q, q2⟩ | q
      · exact h1 r q
      · rw [q, List.length_append, List.length_singleton]
        omega
      · rw [q, List.length_singleton]
        omega
theorem settleL_falls (gs : List (Int × Int)) (h : ∀ g ∈ gs, 0 ≤ g.2) : Falls (settleL gs) := by
  suffices q : ∀ (gs : List (Int × Int)) (rs : List (List Int)), (∀ g ∈ gs, 0 ≤ g.2) → Falls rs → Falls (gs.foldl (fun rs g => place rs g.1 g.2) rs) from q gs [] h List.Pairwise.nil
  intro gs
  induction gs with
  | nil => intro rs _ hr; exact hr
  | cons g gs ih =>
    intro rs hg hr
    rw [List.foldl_cons]
    exact ih _ (fun x hx => hg x (List.mem_cons_of_mem _ hx)) (place_falls rs _ _ (hg g List.mem_cons_self) hr)
/-! ### from the eldest on -/
def byAge (gs : List (Int × Int)) : List (Int × Int) := gs.mergeSort fun g h => decide (h.1 ≤ g.1)
theorem byAge_perm (gs : List (Int × Int)) : (byAge gs).Perm gs := List.mergeSort_perm _ _
theorem byAge_sorted (gs : List (Int × Int)) : (byAge gs).Pairwise fun g h => h.1 ≤ g.1 := by
  have q := List.pairwise_mergeSort (le := fun (g h : Int × Int) => decide (h.1 ≤ g.1)) (fun a b c h1 h2 => by
    have h1 := of_decide_eq_true h1
    have h2 := of_decide_eq_true h2
    exact decide_eq_true (by omega)) (fun a b => by
    by_cases h : b.1 ≤ a.1
    · simp [h]
    · have : a.1 ≤ b.1 := by omega
      simp [this]) gs
  exact q.imp fun h => of_decide_eq_true h
theorem byAge_length (gs : List (Int × Int)) : (byAge gs).length = gs.length := (byAge_perm gs).length_eq
theorem sorted_uniq {α : Type} (k : α → Int) : ∀ {l m : List α}, l.Perm m → (l.map k).Nodup → l.Pairwise (fun g h => k h ≤ k g) → m.Pairwise (fun g h => k h ≤ k g) → l = m
  | [], m, p, _, _, _ => by rw [List.nil_perm.mp p]
  | x :: l, [], p, _, _, _ => absurd p.length_eq (by simp)
  | x :: l, y :: m, p, nd, h1, h2 => by
    have nd' : (k x :: l.map k).Nodup := nd
    obtain ⟨n1, n2⟩ := List.nodup_cons.mp nd'
    obtain ⟨a1, a2⟩ := List.pairwise_cons.mp h1
    obtain ⟨b1, b2⟩ := List.pairwise_cons.mp h2
    have e : x = y := by
      rcases List.mem_cons.mp (p.mem_iff.mp List.mem_cons_self) with e | hx
      · exact e
      · have hy : y ∈ x :: l := p.mem_iff.mpr List.mem_cons_self
        rcases List.mem_cons.mp hy with e | hy
        · exact e.symm
        · have c1 := b1 x hx
          have c2 := a1 y hy
          have c3 : k x = k y := by omega
          exact absurd (List.mem_map.mpr ⟨y, hy, c3.symm⟩) n1
    subst e
    rw [sorted_uniq k (List.Perm.cons_inv p) n2 a2 b2]
def settle (gs : List (Int × Int)) : List (List Int) := settleL (byAge gs)
/-- guests that there can be -/
structure Fit (gs : List (Int × Int)) : Prop where
  nd : (gs.map (·.1)).Nodup
  pos : ∀ g ∈ gs, 0 ≤ g.2
theorem Fit.perm {gs hs : List (Int × Int)} (f : Fit gs) (p : hs.Perm gs) : Fit hs := ⟨((p.map (·.1)).nodup_iff).mpr f.nd, fun g hg => f.pos g (p.mem_iff.mp hg)⟩
theorem Fit.byAge {gs : List (Int × Int)} (f : Fit gs) : Fit (byAge gs) := f.perm (byAge_perm gs)
theorem byAge_of {gs hs : List (Int × Int)} (f : Fit gs) (p : hs.Perm gs) (h : hs.Pairwise fun g h => h.1 ≤ g.1) : hs = byAge gs :=
  sorted_uniq (·.1) (p.trans (byAge_perm gs).symm) (f.perm p).nd h (byAge_sorted gs)
theorem byAge_congr {gs hs : List (Int × Int)} (f : Fit gs) (p : hs.Perm gs) : byAge hs = byAge gs :=
  byAge_of f ((byAge_perm hs).trans p) (byAge_sorted hs)
theorem ages_of {gs : List (Int × Int)} (f : Fit gs) {ns : List Int} (p : ns.Perm (gs.map (·.1))) (h : ns.Pairwise (· ≥ ·)) : ns = (byAge gs).map (·.1) := by
  refine sorted_uniq (fun x : Int => x) (p.trans ((byAge_perm gs).map (·.1)).symm) ?_ (h.imp fun q => q) ?_
  · rw [List.map_id']
    exact (p.nodup_iff).mpr f.nd
  · rw [List.pairwise_map]
    exact byAge_sorted gs
theorem settle_congr {gs hs : List (Int × Int)} (f : Fit gs) (p : hs.Perm gs) : settle hs = settle gs := by
  unfold settle
  rw [byAge_congr f p]
end El
namespace El
/-! ### who has more elders than they bear -/
def down (ns : List Int) : List Int := ns.mergeSort fun a b => decide (b ≤ a)
theorem down_perm (ns : List Int) : (down ns).Perm ns := List.mergeSort_perm _ _
theorem down_sorted (ns : List Int) : (down ns).Pairwise (· ≥ ·) := by
  have q := List.pairwise_mergeSort (le := fun (g h : Int) => decide (h ≤ g)) (fun a b c h1 h2 => by
    have h1 := of_decide_eq_true h1
    have h2 := of_decide_eq_true h2
    exact decide_eq_true (by omega)) (fun a b => by
    by_cases h : b ≤ a
    · simp [h]
    · have : a ≤ b := by omega
      simp [this]) ns
  exact q.imp fun h => of_decide_eq_true h
theorem desc_uniq : ∀ {l m : List Int}, l.Perm m → l.Pairwise (· ≥ ·) → m.Pairwise (· ≥ ·) → l = m
  | [], m, p, _, _ => by rw [List.nil_perm.mp p]
  | x :: l, [], p, _, _ => absurd p.length_eq (by simp)
  | x :: l, y :: m, p, h1, h2 => by
    obtain ⟨a1, a2⟩ := List.pairwise_cons.mp h1
    obtain ⟨b1, b2⟩ := List.pairwise_cons.mp h2
    have e : x = y := by
      rcases List.mem_cons.mp (p.mem_iff.mp List.mem_cons_self) with e | hx
      · exact e
      · have hy : y ∈ x :: l := p.mem_iff.mpr List.mem_cons_self
        rcases List.mem_cons.mp hy with e | hy
        · exact e.symm
        · have c1 := b1 x hx
          have c2 := a1 y hy
          omega
    subst e
    rw [desc_uniq (List.Perm.cons_inv p) a2 b2]
theorem down_is {l ns : List Int} (p : l.Perm ns) (h : l.Pairwise (· ≥ ·)) : l = down ns := desc_uniq (p.trans (down_perm ns).symm) h (down_sorted ns)
def pof (gs : List (Int × Int)) (a : Int) : Int := match gs.find? fun g => decide (g.1 = a) with | some g => g.2 | none => 0
theorem pof_is : ∀ {gs : List (Int × Int)} {g : Int × Int}, (gs.map (·.1)).Nodup → g ∈ gs → pof gs g.1 = g.2
  | x :: gs, g, nd, h => by
    have nd' : (x.1 :: gs.map (·.1)).Nodup := nd
    obtain ⟨n1, n2⟩ := List.nodup_cons.mp nd'
    rcases List.mem_cons.mp h with e | h
    · subst e
      unfold pof
      rw [List.find?_cons_of_pos (by simp)]
    · have n : ¬ x.1 = g.1 := fun z => n1 (by rw [z]; exact List.mem_map.mpr ⟨g, h, rfl⟩)
      have := pof_is n2 h
      unfold pof at this ⊢
      rw [List.find?_cons_of_neg (by simpa using n)]
      exact this
def upIn (pf : Int → Int) : List Int → Nat → Option Int
  | [], _ => none
  | a :: l, i => if pf a < (i : Int) then some a else upIn pf l (i + 1)
theorem upIn_none {pf : Int → Int} : ∀ {l : List Int} {k : Nat}, (∀ (i : Nat) (a : Int), l[i]? = some a → ((i + k : Nat) : Int) ≤ pf a) → upIn pf l k = none
  | [], _, _ => rfl
  | a :: l, k, h => by
    unfold upIn
    have h0 := h 0 a rfl
    rw [if_neg (by omega)]
    exact upIn_none fun i b e => by
      have := h (i + 1) b (by simpa using e)
      omega
theorem upIn_at {pf : Int → Int} {l : List Int} {a : Int} : ∀ {i k : Nat}, l[i]? = some a → (∀ (j : Nat) (b : Int), j < i → l[j]? = some b → ((j + k : Nat) : Int) ≤ pf b) → pf a < ((i + k : Nat) : Int) → upIn pf l k = some a := by
  induction l with
  | nil => intro i k e; simp at e
  | cons x l ih =>
    intro i k e h1 h2
    unfold upIn
    cases i with
    | zero =>
      obtain rfl : x = a := Option.some.inj e
      rw [if_pos (by omega)]
    | succ i =>
      have h0 := h1 0 x (Nat.succ_pos _) rfl
      rw [if_neg (by omega)]
      exact ih (i := i) (by simpa using e) (fun j b hj e' => by
        have := h1 (j + 1) b (Nat.succ_lt_succ hj) (by simpa using e')
        omega) (by omega)
def eldUp (gs : List (Int × Int)) (ns : List Int) : Option Int := upIn (pof gs) (down ns) 0
def upsetOf (gs : List (Int × Int)) : List (List Int) → Nat → Option (Nat × Int)
  | [], _ => none
  | r :: rs, i => match eldUp gs r with | some a => some (i, a) | none => upsetOf gs rs (i + 1)
theorem upsetOf_none {gs : List (Int × Int)} : ∀ {rs : List (List Int)} {k : Nat}, (∀ r ∈ rs, eldUp gs r = none) → upsetOf gs rs k = none
  | [], _, _ => rfl
  | r :: rs, k, h => by
    unfold upsetOf
    rw [h r List.mem_cons_self]
    exact upsetOf_none fun s m => h s (List.mem_cons_of_mem _ m)
theorem upsetOf_at {gs : List (Int × Int)} {rs : List (List Int)} {r : List Int} {a : Int} : ∀ {i k : Nat}, rs[i]? = some r → (∀ (j : Nat) (s : List Int), j < i → rs[j]? = some s → eldUp gs s = none) → eldUp gs r = some a → upsetOf gs rs k = some (i + k, a) := by
  induction rs with
  | nil => intro i k e; simp at e
  | cons x rs ih =>
    intro i k e h1 h2
    unfold upsetOf
    cases i with
    | zero =>
      obtain rfl : x = r := Option.some.inj e
      rw [h2, Nat.zero_add]
    | succ i =>
      rw [h1 0 x (Nat.succ_pos _) rfl]
      have z := ih (i := i) (k := k + 1) (by simpa using e) (fun j b hj e' => h1 (j + 1) b (Nat.succ_lt_succ hj) (by simpa using e')) h2
      show upsetOf gs rs (k + 1) = _
      rw [z, show i + (k + 1) = i + 1 + k by omega]
/-! ### the rooms by age are in peace -/
def Fine (L : List (Int × Int)) (r : List Int) : Prop := r.Pairwise (· ≥ ·) ∧ ∀ (i : Nat) (a : Int), r[i]? = some a → ∃ g ∈ L, g.1 = a ∧ (i : Int) ≤ g.2
theorem Fine.mem {L : List (Int × Int)} {r : List Int} (h : Fine L r) {a : Int} (m : a ∈ r) : ∃ g ∈ L, g.1 = a := by
  obtain ⟨i, e⟩ := List.mem_iff_getElem?.mp m
  obtain ⟨g, h1, h2, _⟩ := h.2 i a e
  exact ⟨g, h1, h2⟩
theorem Fine.more {L M : List (Int × Int)} {r : List Int} (h : Fine L r) (k : ∀ g ∈ L, g ∈ M) : Fine M r := ⟨h.1, fun i a e => by
  obtain ⟨g, h1, h2⟩ := h.2 i a e
  exact ⟨g, k g h1, h2⟩⟩
theorem settleL_fine {L : List (Int × Int)} (hL : L.Pairwise fun g h => h.1 ≤ g.1) (hp : ∀ g ∈ L, 0 ≤ g.2) : ∀ i, i ≤ L.length → ∀ r ∈ settleL (L.take i), Fine (L.take i) r
  | 0, _, r, hr => by
    rw [List.take_zero] at hr
    exact absurd hr (List.not_mem_nil)
  | i + 1, hi, r, hr => by
    have ih := settleL_fine hL hp i (by omega)
    have eg : L[i]? = some L[i] := List.getElem?_eq_getElem hi
    generalize hg : L[i] = g at eg
    have hm : g ∈ L := List.mem_of_getElem? eg
    have hle : ∀ x ∈ L.take i, g.1 ≤ x.1 := by
      have e2 : L = L.take i ++ g :: L.drop (i + 1) := by
        have := List.getElem_cons_drop (as := L) (i := i) hi
        rw [hg] at this
        rw [this, List.take_append_drop]
      rw [e2] at hL
      exact fun x hx => (List.pairwise_append.mp hL).2.2 x hx g List.mem_cons_self
    have et : L.take (i + 1) = L.take i ++ [g] := by
      rw [List.take_add_one, eg]
      rfl
    rw [settleL_take eg] at hr
    rw [et]
    rcases place_mem hr with q | ⟨s, hs, e, hle2⟩ | q
    · exact (ih r q).more fun x hx => List.mem_append_left _ hx
    · have hF := ih s hs
      subst e
      refine ⟨?_, fun j a e => ?_⟩
      · rw [List.pairwise_append]
        refine ⟨hF.1, List.pairwise_singleton _ _, fun x hx y hy => ?_⟩
        rw [List.mem_singleton.mp hy]
        obtain ⟨z, hz, rfl⟩ := hF.mem hx
        exact hle z hz
      · by_cases hj : j < s.length
        · rw [List.getElem?_append_left hj] at e
          obtain ⟨z, h1, h2⟩ := hF.2 j a e
          exact ⟨z, List.mem_append_left _ h1, h2⟩
        · rw [List.getElem?_append_right (by omega)] at e
          have hj0 : j - s.length = 0 := by
            have := (List.getElem?_eq_some_iff.mp e).1
            rw [List.length_singleton] at this
            omega
          rw [hj0] at e
          obtain rfl : g.1 = a := Option.some.inj e
          exact ⟨g, List.mem_append_right _ (List.mem_singleton.mpr rfl), rfl, by omega⟩
    · subst q
      refine ⟨List.pairwise_singleton _ _, fun j a e => ?_⟩
      have hj0 : j = 0 := by
        have := (List.getElem?_eq_some_iff.mp e).1
        rw [List.length_singleton] at this
        omega
      subst hj0
      obtain rfl : g.1 = a := Option.some.inj e
      exact ⟨g, List.mem_append_right _ (List.mem_singleton.mpr rfl), rfl, hp g hm⟩
theorem settle_fine {gs : List (Int × Int)} (f : Fit gs) {r : List Int} (hr : r ∈ settle gs) : Fine gs r := by
  have h := settleL_fine (byAge_sorted gs) f.byAge.pos (byAge gs).length (Nat.le_refl _) r (by rw [List.take_length]; exact hr)
  rw [List.take_length] at h
  exact h.more fun g hg => (byAge_perm gs).mem_iff.mp hg
theorem settle_calm {gs : List (Int × Int)} (f : Fit gs) {r : List Int} (hr : r ∈ settle gs) : eldUp gs r = none := by
  obtain ⟨h1, h2⟩ := settle_fine f hr
  unfold eldUp
  rw [← down_is (List.Perm.refl r) h1]
  refine upIn_none fun i a e => ?_
  obtain ⟨g, hg, rfl, hl⟩ := h2 i a e
  rw [pof_is f.nd hg]
  exact hl
theorem place_perm : ∀ (rs : List (List Int)) (a p : Int), (place rs a p).flatten.Perm (a :: rs.flatten)
  | [], a, p => List.Perm.refl _
  | r :: rs, a, p => by
    unfold place
    split
    · rw [List.flatten_cons, List.flatten_cons, List.append_assoc]
      exact List.perm_middle
    · rw [List.flatten_cons, List.flatten_cons]
      exact ((place_perm rs a p).append_left r).trans List.perm_middle
theorem foldl_place_perm : ∀ (L : List (Int × Int)) (rs : List (List Int)), (L.foldl (fun rs g => place rs g.1 g.2) rs).flatten.Perm (L.map (·.1) ++ rs.flatten)
  | [], rs => List.Perm.refl _
  | g :: L, rs => by
    rw [List.foldl_cons]
    refine (foldl_place_perm L _).trans (((place_perm rs g.1 g.2).append_left _).trans ?_)
    rw [List.map_cons, List.cons_append]
    exact List.perm_middle
theorem settle_flat (gs : List (Int × Int)) : (settle gs).flatten.Perm (gs.map (·.1)) := by
  have h := foldl_place_perm (byAge gs) []
  rw [List.flatten_nil, List.append_nil] at h
  exact h.trans ((byAge_perm gs).map _)
/-! ### those behind the first j rooms -/
theorem take_place_lt : ∀ (rs : List (List Int)) (a p : Int) (j : Nat), firstB rs p < j → (place rs a p).take j = place (rs.take j) a p
  | _, _, _, 0, h => absurd h (Nat.not_lt_zero _)
  | [], a, p, j + 1, _ => by
    rw [List.take_nil]
    unfold place
    rw [List.take_succ_cons, List.take_nil]
  | r :: rs, a, p, j + 1, h => by
    unfold firstB at h
    rw [List.take_succ_cons]
    unfold place
    split at h
    · rename_i q
      rw [if_pos q, if_pos q, List.take_succ_cons]
    · rename_i q
      rw [if_neg q, if_neg q, List.take_succ_cons, take_place_lt rs a p j (by omega)]
theorem take_place_ge : ∀ (rs : List (List Int)) (a p : Int) (j : Nat), j ≤ firstB rs p → (place rs a p).take j = rs.take j
  | _, _, _, 0, _ => by rw [List.take_zero, List.take_zero]
  | [], a, p, j + 1, h => absurd h (Nat.not_succ_le_zero _)
  | r :: rs, a, p, j + 1, h => by
    unfold firstB at h
    unfold place
    split at h
    · exact absurd h (Nat.not_succ_le_zero _)
    · rename_i q
      rw [if_neg q, List.take_succ_cons, List.take_succ_cons, take_place_ge rs a p j (by omega)]
theorem drop_place_lt : ∀ (rs : List (List Int)) (a p : Int) (j : Nat), firstB rs p < j → (place rs a p).drop j = rs.drop j
  | _, _, _, 0, h => absurd h (Nat.not_lt_zero _)
  | [], a, p, j + 1, _ => by
    unfold place
    rw [List.drop_succ_cons, List.drop_nil, List.drop_nil]
  | r :: rs, a, p, j + 1, h => by
    unfold firstB at h
    unfold place
    split at h
    · rename_i q
      rw [if_pos q, List.drop_succ_cons, List.drop_succ_cons]
    · rename_i q
      rw [if_neg q, List.drop_succ_cons, List.drop_succ_cons, drop_place_lt rs a p j (by omega)]
theorem drop_place_ge : ∀ (rs : List (List Int)) (a p : Int) (j : Nat), j ≤ firstB rs p → (place rs a p).drop j = place (rs.drop j) a p
  | _, _, _, 0, _ => by rw [List.drop_zero, List.drop_zero]
  | [], a, p, j + 1, h => absurd h (Nat.not_succ_le_zero _)
  | r :: rs, a, p, j + 1, h => by
    unfold firstB at h
    split at h
    · exact absurd h (Nat.not_succ_le_zero _)
    · rename_i q
      rw [List.drop_succ_cons]
      show (if (r.length : Int) ≤ p then (r ++ [a]) :: rs else r :: place rs a p).drop (j + 1) = _
      rw [if_neg q, List.drop_succ_cons, drop_place_ge rs a p j (by omega)]
def kept (j : Nat) : List (List Int) → List (Int × Int) → List (Int × Int)
  | _, [] => []
  | rs, g :: L => if firstB rs g.2 < j then g :: kept j (place rs g.1 g.2) L else kept j (place rs g.1 g.2) L
def gone (j : Nat) : List (List Int) → List (Int × Int) → List (Int × Int)
  | _, [] => []
  | rs, g :: L => if firstB rs g.2 < j then gone j (place rs g.1 g.2) L else g :: gone j (place rs g.1 g.2) L
theorem gone_sub (j : Nat) : ∀ (L : List (Int × Int)) (rs : List (List Int)), ∀ g ∈ gone j rs L, g ∈ L
  | [], _, g, h => h
  | x :: L, rs, g, h => by
    unfold gone at h
    split at h
    · exact List.mem_cons_of_mem _ (gone_sub j L _ g h)
    · rcases List.mem_cons.mp h with e | h
      · rw [e]
        exact List.mem_cons_self
      · exact List.mem_cons_of_mem _ (gone_sub j L _ g h)
theorem kept_settle (j : Nat) : ∀ (L : List (Int × Int)) (rs : List (List Int)), (kept j rs L).foldl (fun rs g => place rs g.1 g.2) (rs.take j) = (L.foldl (fun rs g => place rs g.1 g.2) rs).take j
  | [], _ => rfl
  | g :: L, rs => by
    rw [List.foldl_cons]
    unfold kept
    split
    · rename_i h
      rw [List.foldl_cons, ← take_place_lt rs g.1 g.2 j h]
      exact kept_settle j L _
    · rename_i h
      rw [← take_place_ge rs g.1 g.2 j (by omega)]
      exact kept_settle j L _
theorem gone_settle (j : Nat) : ∀ (L : List (Int × Int)) (rs : List (List Int)), ((L.foldl (fun rs g => place rs g.1 g.2) rs).drop j).flatten.Perm ((gone j rs L).map (·.1) ++ (rs.drop j).flatten)
  | [], _ => List.Perm.refl _
  | g :: L, rs => by
    rw [List.foldl_cons]
    refine (gone_settle j L _).trans ?_
    show ((gone j (place rs g.1 g.2) L).map (·.1) ++ _).Perm ((if firstB rs g.2 < j then gone j (place rs g.1 g.2) L else g :: gone j (place rs g.1 g.2) L).map (·.1) ++ _)
    split
    · rename_i h
      rw [drop_place_lt rs g.1 g.2 j h]
    · rename_i h
      rw [drop_place_ge rs g.1 g.2 j (by omega), List.map_cons, List.cons_append]
      exact ((place_perm (rs.drop j) g.1 g.2).append_left _).trans List.perm_middle
theorem kept_filter (j : Nat) : ∀ (L : List (Int × Int)) (rs : List (List Int)) (S : List Int), (L.map (·.1)).Nodup → (∀ g ∈ L, g.1 ∈ S ↔ g.1 ∈ (gone j rs L).map (·.1)) → L.filter (fun g => !decide (g.1 ∈ S)) = kept j rs L
  | [], _, _, _, _ => rfl
  | g :: L, rs, S, nd, h => by
    have nd' : (g.1 :: L.map (·.1)).Nodup := nd
    obtain ⟨n1, n2⟩ := List.nodup_cons.mp nd'
    have h0 := h g List.mem_cons_self
    unfold kept
    by_cases q : firstB rs g.2 < j
    · have eg : gone j rs (g :: L) = gone j (place rs g.1 g.2) L := by
        show (if _ then _ else _) = _
        rw [if_pos q]
      rw [eg] at h h0
      have ng : ¬ g.1 ∈ S := fun z => by
        obtain ⟨x, hx, e⟩ := List.mem_map.mp (h0.mp z)
        exact n1 (List.mem_map.mpr ⟨x, gone_sub j L _ x hx, e⟩)
      rw [if_pos q, List.filter_cons_of_pos (by simpa using ng), kept_filter j L _ S n2 fun x hx => h x (List.mem_cons_of_mem _ hx)]
    · have eg : gone j rs (g :: L) = g :: gone j (place rs g.1 g.2) L := by
        show (if _ then _ else _) = _
        rw [if_neg q]
      rw [eg] at h h0
      have ng : g.1 ∈ S := h0.mpr List.mem_cons_self
      rw [if_neg q, List.filter_cons_of_neg (by simpa using ng)]
      refine kept_filter j L _ S n2 fun x hx => ?_
      have hx1 := h x (List.mem_cons_of_mem _ hx)
      rw [hx1, List.map_cons, List.mem_cons]
      have ne : ¬ x.1 = g.1 := fun z => n1 (by rw [← z]; exact List.mem_map.mpr ⟨x, hx, rfl⟩)
      exact ⟨fun z => z.resolve_left ne, .inr⟩
theorem Fit.filter {gs : List (Int × Int)} (f : Fit gs) (k : Int × Int → Bool) : Fit (gs.filter k) :=
  ⟨f.nd.sublist (List.filter_sublist.map _), fun g hg => f.pos g (List.mem_filter.mp hg).1⟩
theorem byAge_filter {gs : List (Int × Int)} (f : Fit gs) (k : Int × Int → Bool) : byAge (gs.filter k) = (byAge gs).filter k :=
  (byAge_of (f.filter k) ((byAge_perm gs).filter k) ((byAge_sorted gs).sublist List.filter_sublist)).symm
theorem settle_left {gs : List (Int × Int)} (f : Fit gs) {S : List Int} {j : Nat} (h : ∀ a, a ∈ S ↔ a ∈ ((settle gs).drop j).flatten) : settle (gs.filter fun g => !decide (g.1 ∈ S)) = (settle gs).take j := by
  unfold settle
  rw [byAge_filter f]
  have hg := gone_settle j (byAge gs) []
  rw [List.drop_nil, List.flatten_nil, List.append_nil] at hg
  rw [kept_filter j (byAge gs) [] S f.byAge.nd fun g _ => (h g.1).trans hg.mem_iff]
  have := kept_settle j (byAge gs) []
  rw [List.take_nil] at this
  exact this
def sentAway (gs : List (Int × Int)) (j : Nat) : List Int := down ((settle gs).drop j).flatten
theorem sentAway_mem (gs : List (Int × Int)) (j : Nat) (a : Int) : a ∈ sentAway gs j ↔ a ∈ ((settle gs).drop j).flatten := (down_perm _).mem_iff
end El
namespace El
/-! ### one guest more -/
/-- b is s with one more put in -/
def Plus (s b : List Int) : Prop := ∃ (A : List Int) (m : Int) (B : List Int), s = A ++ B ∧ b = A ++ m :: B
/-- where s has g, b has m ahead -/
def Swap (s b : List Int) : Prop := ∃ (A : List Int) (m : Int) (B : List Int) (g : Int) (C : List Int), s = A ++ B ++ g :: C ∧ b = A ++ m :: B ++ C
def Alike (s b : List Int) : Prop := s = b ∨ Swap s b
theorem Plus.len {s b : List Int} (h : Plus s b) : b.length = s.length + 1 := by
  obtain ⟨A, m, B, rfl, rfl⟩ := h
  rw [List.length_append, List.length_append, List.length_cons]
  omega
theorem Alike.len {s b : List Int} (h : Alike s b) : b.length = s.length := by
  rcases h with rfl | ⟨A, m, B, g, C, rfl, rfl⟩
  · rfl
  · simp only [List.length_append, List.length_cons]
    omega
theorem Plus.snoc {s b : List Int} (h : Plus s b) (a : Int) : Plus (s ++ [a]) (b ++ [a]) := by
  obtain ⟨A, m, B, rfl, rfl⟩ := h
  exact ⟨A, m, B ++ [a], by rw [List.append_assoc], by rw [List.append_assoc]; rfl⟩
theorem Alike.snoc {s b : List Int} (h : Alike s b) (a : Int) : Alike (s ++ [a]) (b ++ [a]) := by
  rcases h with rfl | ⟨A, m, B, g, C, rfl, rfl⟩
  · exact .inl rfl
  · exact .inr ⟨A, m, B, g, C ++ [a], by simp only [List.append_assoc, List.cons_append], by simp only [List.append_assoc, List.cons_append]⟩
inductive Near : List (List Int) → List (List Int) → Prop
  | new (m : Int) : Near [] [[m]]
  | here {s b : List Int} (h : Plus s b) (rest : List (List Int)) : Near (s :: rest) (b :: rest)
  | skip {s b : List Int} {ss bs : List (List Int)} (h : Alike s b) (r : Near ss bs) : Near (s :: ss) (b :: bs)
theorem Near.place (rs : List (List Int)) (a p : Int) : Near rs (El.place rs a p) := by
  induction rs with
  | nil => exact .new a
  | cons r rs ih =>
    unfold El.place
    split
    · exact .here ⟨r, a, [], by simp, rfl⟩ rs
    · exact .skip (.inl rfl) ih
theorem Near.step {s b : List (List Int)} (h : Near s b) (a p : Int) (hp : 0 ≤ p) : Near (El.place s a p) (El.place b a p) := by
  induction h with
  | new m =>
    unfold El.place
    split
    · exact .here (s := [a]) (b := [m] ++ [a]) ⟨[], m, [a], rfl, rfl⟩ []
    · refine .skip (.inr ⟨[], m, [], a, [], rfl, rfl⟩) ?_
      exact .new a
  | @here s b hb rest =>
    have hl := hb.len
    unfold El.place
    by_cases h1 : (s.length : Int) ≤ p
    · rw [if_pos h1]
      by_cases h2 : (b.length : Int) ≤ p
      · rw [if_pos h2]
        exact .here (hb.snoc a) rest
      · rw [if_neg h2]
        obtain ⟨A, m, B, rfl, rfl⟩ := hb
        exact .skip (.inr ⟨A, m, B, a, [], rfl, by simp⟩) (Near.place rest a p)
    · rw [if_neg h1, if_neg (by omega)]
      exact .here hb _
  | @skip s b ss bs hs r ih =>
    have hl := hs.len
    unfold El.place
    by_cases h1 : (s.length : Int) ≤ p
    · rw [if_pos h1, if_pos (by omega)]
      exact .skip (hs.snoc a) r
    · rw [if_neg h1, if_neg (by omega)]
      exact .skip hs ih
theorem Near.fold {s b : List (List Int)} (h : Near s b) : ∀ (gs : List (Int × Int)), (∀ g ∈ gs, 0 ≤ g.2) → Near (gs.foldl (fun rs g => El.place rs g.1 g.2) s) (gs.foldl (fun rs g => El.place rs g.1 g.2) b)
  | [], _ => h
  | g :: gs, hp => by
    rw [List.foldl_cons, List.foldl_cons]
    exact Near.fold (h.step g.1 g.2 (hp g List.mem_cons_self)) gs fun x hx => hp x (List.mem_cons_of_mem _ hx)
/-- the order with one more -/
theorem byAge_split {gs : List (Int × Int)} {x : Int × Int} (f : Fit (x :: gs)) : ∃ pre post, byAge (x :: gs) = pre ++ x :: post ∧ byAge gs = pre ++ post := by
  have hx : x ∈ byAge (x :: gs) := (byAge_perm _).mem_iff.mpr List.mem_cons_self
  obtain ⟨pre, post, e⟩ := List.append_of_mem hx
  refine ⟨pre, post, e, ?_⟩
  have fg : Fit gs := ⟨(List.nodup_cons.mp f.nd).2, fun g hg => f.pos g (List.mem_cons_of_mem _ hg)⟩
  refine (byAge_of fg ?_ ?_).symm
  · have p : (pre ++ x :: post).Perm (x :: gs) := e ▸ byAge_perm (x :: gs)
    exact List.Perm.cons_inv (List.perm_middle.symm.trans p)
  · have s := byAge_sorted (x :: gs)
    rw [e] at s
    rw [List.pairwise_append] at s ⊢
    obtain ⟨s1, s2, s3⟩ := s
    exact ⟨s1, (List.pairwise_cons.mp s2).2, fun a ha b hb => s3 a ha b (List.mem_cons_of_mem _ hb)⟩
theorem settle_near {gs : List (Int × Int)} {x : Int × Int} (f : Fit (x :: gs)) : Near (settle gs) (settle (x :: gs)) := by
  obtain ⟨pre, post, e1, e2⟩ := byAge_split f
  unfold settle settleL
  rw [e1, e2, List.foldl_append, List.foldl_append, List.foldl_cons]
  exact (Near.place _ x.1 x.2).fold post fun g hg => f.pos g ((byAge_perm _).mem_iff.mp (by rw [e1]; exact List.mem_append_right _ (List.mem_cons_of_mem _ hg)))
/-- sizes: one room one fuller -/
def bump (L : List Int) (d : Nat) : List Int := if d < L.length then L.set d (L.getD d 0 + 1) else L ++ [1]
theorem bump_cons (x : Int) (L : List Int) (d : Nat) : bump (x :: L) (d + 1) = x :: bump L d := by
  unfold bump
  by_cases h : d < L.length
  · rw [if_pos h, if_pos (by rw [List.length_cons]; omega)]
    rfl
  · rw [if_neg h, if_neg (by rw [List.length_cons]; omega)]
    rfl
theorem Near.sizes {s b : List (List Int)} (h : Near s b) : ∃ d, d ≤ s.length ∧ b.map (fun r => (r.length : Int)) = bump (s.map fun r => (r.length : Int)) d := by
  induction h with
  | new m => exact ⟨0, Nat.le_refl _, rfl⟩
  | @here s b hb rest =>
    refine ⟨0, Nat.zero_le _, ?_⟩
    have hl := hb.len
    show ((b.length : Int) :: rest.map fun r => (r.length : Int)) = ((s.length : Int) + 1) :: rest.map fun r => (r.length : Int)
    rw [hl]
    rfl
  | @skip s b ss bs hs r ih =>
    obtain ⟨d, hd, e⟩ := ih
    refine ⟨d + 1, by rw [List.length_cons]; omega, ?_⟩
    rw [List.map_cons, List.map_cons, bump_cons, e, hs.len]
theorem bump_length (L : List Int) {d : Nat} : (bump L d).length = if d < L.length then L.length else L.length + 1 := by
  unfold bump
  split
  · rw [List.length_set]
  · rw [List.length_append]
    rfl
theorem bump_at (L : List Int) {d k : Nat} (hd : d ≤ L.length) (hk : k < (bump L d).length) : (bump L d)[k]? = some (L.getD k 0 + if k = d then 1 else 0) := by
  rw [bump_length] at hk
  unfold bump
  by_cases h : d < L.length
  · rw [if_pos h] at hk ⊢
    by_cases e : k = d
    · subst e
      rw [List.getElem?_set_self hk, if_pos rfl]
    · rw [List.getElem?_set_ne (fun z => e z.symm), if_neg e, Int.add_zero, List.getElem?_eq_getElem hk, List.getD_eq_getElem?_getD, List.getElem?_eq_getElem hk]
      rfl
  · rw [if_neg h] at hk ⊢
    have hd' : d = L.length := by omega
    subst hd'
    by_cases e : k = L.length
    · subst e
      rw [List.getElem?_append_right (Nat.le_refl _), Nat.sub_self, if_pos rfl, List.getD_eq_getElem?_getD, List.getElem?_eq_none (Nat.le_refl _)]
      rfl
    · have hk' : k < L.length := by omega
      rw [List.getElem?_append_left hk', if_neg e, Int.add_zero, List.getElem?_eq_getElem hk', List.getD_eq_getElem?_getD, List.getElem?_eq_getElem hk']
      rfl
end El
namespace El
/-! ### somebody comes: from room to room -/
/-- who is kept in a room with n inside, of those who come one after another -/
def g0 : Nat → List (Int × Int) → List (Int × Int)
  | _, [] => []
  | n, g :: L => if (n : Int) ≤ g.2 then g :: g0 (n + 1) L else g0 n L
/-- who goes on -/
def r0 : Nat → List (Int × Int) → List (Int × Int)
  | _, [] => []
  | n, g :: L => if (n : Int) ≤ g.2 then r0 (n + 1) L else g :: r0 n L
theorem g0_yes {n : Nat} {g : Int × Int} {L : List (Int × Int)} (h : (n : Int) ≤ g.2) : g0 n (g :: L) = g :: g0 (n + 1) L := if_pos h
theorem g0_no {n : Nat} {g : Int × Int} {L : List (Int × Int)} (h : ¬ (n : Int) ≤ g.2) : g0 n (g :: L) = g0 n L := if_neg h
theorem r0_yes {n : Nat} {g : Int × Int} {L : List (Int × Int)} (h : (n : Int) ≤ g.2) : r0 n (g :: L) = r0 (n + 1) L := if_pos h
theorem r0_no {n : Nat} {g : Int × Int} {L : List (Int × Int)} (h : ¬ (n : Int) ≤ g.2) : r0 n (g :: L) = g :: r0 n L := if_neg h
theorem fold_first : ∀ (L : List (Int × Int)) (r : List Int) (rs : List (List Int)), L.foldl (fun rs g => place rs g.1 g.2) (r :: rs) = (r ++ (g0 r.length L).map (·.1)) :: (r0 r.length L).foldl (fun rs g => place rs g.1 g.2) rs
  | [], r, rs => by
    show r :: rs = (r ++ []) :: rs
    rw [List.append_nil]
  | g :: L, r, rs => by
    rw [List.foldl_cons]
    by_cases h : (r.length : Int) ≤ g.2
    · have e : place (r :: rs) g.1 g.2 = (r ++ [g.1]) :: rs := by
        unfold place
        rw [if_pos h]
      rw [e, fold_first L, List.length_append, List.length_singleton]
      rw [g0_yes h, r0_yes h, List.map_cons, List.append_assoc]
      rfl
    · have e : place (r :: rs) g.1 g.2 = r :: place rs g.1 g.2 := by
        unfold place
        rw [if_neg h]
        cases rs <;> rfl
      rw [e, fold_first L]
      rw [g0_no h, r0_no h, List.foldl_cons]
/-- the first room, and the rooms of those who go on -/
theorem settle_first {L : List (Int × Int)} (hn : L ≠ []) (hp : ∀ g ∈ L, 0 ≤ g.2) : settleL L = (g0 0 L).map (·.1) :: settleL (r0 0 L) := by
  cases L with
  | nil => exact absurd rfl hn
  | cons g L =>
    have h0 : ((0 : Nat) : Int) ≤ g.2 := hp g (.head _)
    have e := fold_first L [g.1] []
    unfold settleL
    rw [List.foldl_cons]
    show L.foldl _ [[g.1]] = _
    rw [e, g0_yes h0, r0_yes h0]
    rfl
theorem g0_app : ∀ (A B : List (Int × Int)) (n : Nat), g0 n (A ++ B) = g0 n A ++ g0 (n + (g0 n A).length) B
  | [], B, n => rfl
  | g :: A, B, n => by
    rw [List.cons_append]
    by_cases h : (n : Int) ≤ g.2
    · rw [g0_yes h, g0_yes h, g0_app A B (n + 1), List.cons_append, List.length_cons, Nat.add_assoc, Nat.add_comm 1]
    · rw [g0_no h, g0_no h, g0_app A B n]
theorem r0_app : ∀ (A B : List (Int × Int)) (n : Nat), r0 n (A ++ B) = r0 n A ++ r0 (n + (g0 n A).length) B
  | [], B, n => rfl
  | g :: A, B, n => by
    rw [List.cons_append]
    by_cases h : (n : Int) ≤ g.2
    · rw [r0_yes h, r0_yes h, g0_yes h, r0_app A B (n + 1), List.length_cons, Nat.add_assoc, Nat.add_comm 1]
    · rw [r0_no h, r0_no h, g0_no h, r0_app A B n, List.cons_append]
/-- one more inside: nobody gives way, or one does, and all is as before from there on -/
theorem one_gives : ∀ (L : List (Int × Int)) (n : Nat), (g0 (n + 1) L = g0 n L ∧ r0 (n + 1) L = r0 n L ∧ ∀ i g, (g0 n L)[i]? = some g → ((n + 1 + i : Nat) : Int) ≤ g.2) ∨
    ∃ L1 y L2, L = L1 ++ y :: L2 ∧ g0 (n + 1) L1 = g0 n L1 ∧ r0 (n + 1) L1 = r0 n L1 ∧ (∀ i g, (g0 n L1)[i]? = some g → ((n + 1 + i : Nat) : Int) ≤ g.2) ∧ y.2 = ((n + (g0 n L1).length : Nat) : Int)
  | [], n => .inl ⟨rfl, rfl, fun i g e => by cases e⟩
  | g :: L, n => by
    by_cases h : (n : Int) ≤ g.2
    · by_cases h1 : ((n + 1 : Nat) : Int) ≤ g.2
      · rcases one_gives L (n + 1) with ⟨a, b, c⟩ | ⟨L1, y, L2, rfl, a, b, c, d⟩
        · refine .inl ⟨?_, ?_, fun i x e => ?_⟩
          · rw [g0_yes h, g0_yes h1, a]
          · rw [r0_yes h, r0_yes h1, b]
          · rw [g0_yes h] at e
            cases i with
            | zero => cases e; exact h1
            | succ i =>
              have := c i x e
              omega
        · refine .inr ⟨g :: L1, y, L2, rfl, ?_, ?_, fun i x e => ?_, ?_⟩
          · rw [g0_yes h, g0_yes h1, a]
          · rw [r0_yes h, r0_yes h1, b]
          · rw [g0_yes h] at e
            cases i with
            | zero => cases e; exact h1
            | succ i =>
              have := c i x e
              omega
          · rw [g0_yes h, List.length_cons, d]
            omega
      · exact .inr ⟨[], g, L, rfl, rfl, rfl, (fun i x e => by cases e), by show g.2 = ((n + 0 : Nat) : Int); omega⟩
    · have h1 : ¬ ((n + 1 : Nat) : Int) ≤ g.2 := by omega
      rcases one_gives L n with ⟨a, b, c⟩ | ⟨L1, y, L2, rfl, a, b, c, d⟩
      · refine .inl ⟨?_, ?_, fun i x e => ?_⟩
        · rw [g0_no h, g0_no h1, a]
        · rw [r0_no h, r0_no h1, b]
        · rw [g0_no h] at e
          exact c i x e
      · refine .inr ⟨g :: L1, y, L2, rfl, ?_, ?_, fun i x e => ?_, ?_⟩
        · rw [g0_no h, g0_no h1, a]
        · rw [r0_no h, r0_no h1, b]
        · rw [g0_no h] at e
          exact c i x e
        · rw [g0_no h]
          exact d
theorem g0_fine : ∀ (L : List (Int × Int)) (n i : Nat) (g : Int × Int), (g0 n L)[i]? = some g → ((n + i : Nat) : Int) ≤ g.2
  | [], _, _, _, e => by cases e
  | x :: L, n, i, g, e => by
    by_cases h : (n : Int) ≤ x.2
    · rw [g0_yes h] at e
      cases i with
      | zero => cases e; exact h
      | succ i =>
        have := g0_fine L (n + 1) i g e
        omega
    · rw [g0_no h] at e
      exact g0_fine L n i g e
theorem g0_sub : ∀ (L : List (Int × Int)) (n : Nat), (g0 n L).Sublist L
  | [], _ => .slnil
  | x :: L, n => by
    by_cases h : (n : Int) ≤ x.2
    · rw [g0_yes h]
      exact (g0_sub L (n + 1)).cons₂ x
    · rw [g0_no h]
      exact (g0_sub L n).cons x
theorem r0_sub : ∀ (L : List (Int × Int)) (n : Nat), (r0 n L).Sublist L
  | [], _ => .slnil
  | x :: L, n => by
    by_cases h : (n : Int) ≤ x.2
    · rw [r0_yes h]
      exact (r0_sub L (n + 1)).cons x
    · rw [r0_no h]
      exact (r0_sub L n).cons₂ x
/-- x comes among those of L, at its age's place -/
def Comes (x : Int × Int) (L L' : List (Int × Int)) : Prop := ∃ pre post, L = pre ++ post ∧ L' = pre ++ x :: post
/-- a room that x enters: either all bear it, and it is the room; or the first who does not is y, who goes on -/
theorem enters {x : Int × Int} {L L' : List (Int × Int)} (h : Comes x L L') (down' : L'.Pairwise fun g h => h.1 < g.1) :
    ∃ E : List (Int × Int), E.Perm (x :: g0 0 L) ∧ E.Pairwise (fun g h => h.1 < g.1) ∧
      (((∀ (j : Nat) (g : Int × Int), E[j]? = some g → (j : Int) ≤ g.2) ∧ g0 0 L' = E ∧ r0 0 L' = r0 0 L) ∨
        ∃ (i : Nat) (y : Int × Int), E[i]? = some y ∧ (∀ (j : Nat) (g : Int × Int), j < i → E[j]? = some g → (j : Int) ≤ g.2) ∧ y.2 < (i : Int) ∧ g0 0 L' = E.eraseIdx i ∧ Comes y (r0 0 L) (r0 0 L')) := by
  obtain ⟨pre, post, rfl, rfl⟩ := h
  have eg := g0_app pre post 0
  have er := r0_app pre post 0
  have eg' := g0_app pre (x :: post) 0
  have er' := r0_app pre (x :: post) 0
  rw [Nat.zero_add] at eg er eg' er'
  generalize hA : g0 0 pre = A at eg er eg' er'
  have fineA : ∀ (j : Nat) (g : Int × Int), A[j]? = some g → (j : Int) ≤ g.2 := fun j g e => by
    rw [← hA] at e
    have := g0_fine pre 0 j g e
    omega
  have subA : A.Sublist pre := hA ▸ g0_sub pre 0
  refine ⟨A ++ x :: g0 A.length post, ?_, down'.sublist (subA.append ((g0_sub post A.length).cons₂ x)), ?_⟩
  · rw [eg]
    exact List.perm_middle
  · by_cases hx : (A.length : Int) ≤ x.2
    · rw [eg', er', g0_yes hx, r0_yes hx, er]
      rcases one_gives post A.length with ⟨a, b, c⟩ | ⟨L1, y, L2, rfl, a, b, c, d⟩
      · refine .inl ⟨fun j g e => ?_, by rw [a], by rw [b]⟩
        by_cases hj : j < A.length
        · rw [List.getElem?_append_left hj] at e
          exact fineA j g e
        · rw [List.getElem?_append_right (by omega)] at e
          cases hd : j - A.length with
          | zero =>
            rw [hd] at e
            cases e
            omega
          | succ k =>
            rw [hd] at e
            have := c k g e
            omega
      · have d1 : ((A.length + (g0 A.length L1).length : Nat) : Int) ≤ y.2 := by omega
        have d2 : ¬ ((A.length + 1 + (g0 (A.length + 1) L1).length : Nat) : Int) ≤ y.2 := by rw [a]; omega
        have eold : g0 A.length (L1 ++ y :: L2) = g0 A.length L1 ++ y :: g0 (A.length + (g0 A.length L1).length + 1) L2 := by rw [g0_app, g0_yes d1]
        have enew : g0 (A.length + 1) (L1 ++ y :: L2) = g0 A.length L1 ++ g0 (A.length + (g0 A.length L1).length + 1) L2 := by
          rw [g0_app, g0_no d2, a]
          congr 2
          omega
        have rold : r0 A.length (L1 ++ y :: L2) = r0 A.length L1 ++ r0 (A.length + (g0 A.length L1).length + 1) L2 := by rw [r0_app, r0_yes d1]
        have rnew : r0 (A.length + 1) (L1 ++ y :: L2) = r0 A.length L1 ++ y :: r0 (A.length + (g0 A.length L1).length + 1) L2 := by
          rw [r0_app, r0_no d2, a, b]
          congr 3
          omega
        rw [eold, enew, rold, rnew]
        refine .inr ⟨A.length + 1 + (g0 A.length L1).length, y, ?_, fun j g hj e => ?_, by omega, ?_, r0 0 pre ++ r0 A.length L1, r0 (A.length + (g0 A.length L1).length + 1) L2, by rw [List.append_assoc], by rw [List.append_assoc]⟩
        · rw [List.getElem?_append_right (by omega), show A.length + 1 + (g0 A.length L1).length - A.length = (g0 A.length L1).length + 1 by omega, List.getElem?_cons_succ, List.getElem?_append_right (Nat.le_refl _), Nat.sub_self]
          rfl
        · by_cases h1 : j < A.length
          · rw [List.getElem?_append_left h1] at e
            exact fineA j g e
          · rw [List.getElem?_append_right (by omega)] at e
            cases hd : j - A.length with
            | zero =>
              rw [hd] at e
              cases e
              omega
            | succ k =>
              rw [hd, List.getElem?_cons_succ, List.getElem?_append_left (by omega)] at e
              have := c k g e
              omega
        · rw [List.eraseIdx_append_of_length_le (by omega), show A.length + 1 + (g0 A.length L1).length - A.length = (g0 A.length L1).length + 1 by omega, List.eraseIdx_cons_succ, List.eraseIdx_append_of_length_le (Nat.le_refl _), Nat.sub_self]
          rfl
    · rw [eg', er', g0_no hx, r0_no hx, er]
      refine .inr ⟨A.length, x, ?_, fun j g hj e => ?_, by omega, ?_, r0 0 pre, r0 A.length post, rfl, rfl⟩
      · rw [List.getElem?_append_right (Nat.le_refl _), Nat.sub_self]
        rfl
      · rw [List.getElem?_append_left hj] at e
        exact fineA j g e
      · rw [List.eraseIdx_append_of_length_le (Nat.le_refl _), Nat.sub_self]
        rfl
theorem map_erase0' {α β : Type} (f : α → β) : ∀ (l : List α) (k : Nat), (l.map f).eraseIdx k = (l.eraseIdx k).map f
  | [], _ => rfl
  | _ :: _, 0 => rfl
  | a :: l, k + 1 => by
    rw [List.map_cons, List.eraseIdx_cons_succ, List.eraseIdx_cons_succ, List.map_cons, map_erase0' f l k]
/-- who is in the first room -/
def roomOf (L : List (Int × Int)) : List Int := (g0 0 L).map (·.1)
theorem settle_parts {L : List (Int × Int)} (hp : ∀ g ∈ L, 0 ≤ g.2) : settleL L = if L = [] then [] else roomOf L :: settleL (r0 0 L) := by
  by_cases h : L = []
  · rw [if_pos h, h]
    rfl
  · rw [if_neg h]
    exact settle_first h hp
theorem erase_at : ∀ {l : List Int} {i : Nat} {a : Int}, l.Nodup → l[i]? = some a → l.erase a = l.eraseIdx i
  | x :: l, 0, a, _, e => by
    obtain rfl : x = a := Option.some.inj e
    rw [List.erase_cons_head]
    rfl
  | x :: l, i + 1, a, nd, e => by
    rw [List.nodup_cons] at nd
    have m : a ∈ l := List.mem_of_getElem? (i := i) (by simpa using e)
    have ne : x ≠ a := fun z => nd.1 (z ▸ m)
    rw [List.erase_cons_tail (by simpa using ne), List.eraseIdx_cons_succ, erase_at nd.2 (by simpa using e)]
/-- somebody enters the first room of those of L -/
theorem come_step {gs : List (Int × Int)} (F : Fit gs) {x : Int × Int} {L L' : List (Int × Int)} (h : Comes x L L') (sub : L'.Sublist (byAge gs)) :
    ∃ E : List Int, E.Perm (x.1 :: roomOf L) ∧ E.Pairwise (· > ·) ∧
      ((eldUp gs E = none ∧ settleL L' = E :: settleL (r0 0 L)) ∨ ∃ y, y ∈ L' ∧ y.1 ∈ E ∧ eldUp gs E = some y.1 ∧ settleL L' = E.erase y.1 :: settleL (r0 0 L') ∧ Comes y (r0 0 L) (r0 0 L')) := by
  have desc : (byAge gs).Pairwise fun g h => h.1 < g.1 := by
    have h1 := byAge_sorted gs
    have h2 : (byAge gs).Pairwise fun g h => g.1 ≠ h.1 := by
      have := ((byAge_perm gs).map (·.1)).nodup_iff.mpr F.nd
      rw [List.Nodup, List.pairwise_map] at this
      exact this
    exact (h1.and h2).imp fun h => by omega
  have mem : ∀ g ∈ L', g ∈ gs := fun g m => (byAge_perm gs).mem_iff.mp (sub.subset m)
  have ne : L' ≠ [] := by
    obtain ⟨pre, post, _, rfl⟩ := h
    simp
  have first := settle_first ne fun g m => F.pos g (mem g m)
  have subL : L.Sublist L' := by
    obtain ⟨pre, post, rfl, rfl⟩ := h
    exact (List.Sublist.refl pre).append (List.sublist_cons_self x post)
  have xm : x ∈ L' := by
    obtain ⟨pre, post, _, rfl⟩ := h
    simp
  obtain ⟨E, pE, dE, out⟩ := enters h (desc.sublist sub)
  have inL : ∀ g ∈ E, g ∈ L' := fun g m => by
    rcases List.mem_cons.mp (pE.mem_iff.mp m) with rfl | m
    · exact xm
    · exact subL.subset ((g0_sub L 0).subset m)
  have dE' : (E.map (·.1)).Pairwise (· > ·) := by
    rw [List.pairwise_map]
    exact dE.imp fun h => h
  have nd : (E.map (·.1)).Nodup := dE'.imp fun h => by omega
  have isDown : down (E.map (·.1)) = E.map (·.1) := (down_is (.refl _) (dE'.imp fun h => by omega)).symm
  have pofE : ∀ g ∈ E, pof gs g.1 = g.2 := fun g m => pof_is F.nd (mem g (inL g m))
  refine ⟨E.map (·.1), pE.map _, dE', ?_⟩
  rcases out with ⟨fine, e1, e2⟩ | ⟨i, y, ey, fine, bad, e1, e2⟩
  · refine .inl ⟨?_, by rw [first, e1, e2]⟩
    unfold eldUp
    rw [isDown]
    refine upIn_none fun j a e => ?_
    rw [List.getElem?_map] at e
    obtain ⟨g, eg, rfl⟩ := Option.map_eq_some_iff.mp e
    rw [pofE g (List.mem_of_getElem? eg)]
    exact fine j g eg
  · have ym := List.mem_of_getElem? ey
    refine .inr ⟨y, inL y ym, List.mem_map_of_mem ym, ?_, ?_, e2⟩
    · unfold eldUp
      rw [isDown]
      refine upIn_at (i := i) (by rw [List.getElem?_map, ey]; rfl) (fun j a hj e => ?_) (by rw [pofE y ym]; omega)
      rw [List.getElem?_map] at e
      obtain ⟨g, eg, rfl⟩ := Option.map_eq_some_iff.mp e
      rw [pofE g (List.mem_of_getElem? eg)]
      exact fine j g hj eg
    · rw [first, e1, erase_at nd (by rw [List.getElem?_map, ey]; rfl)]
      congr 1
      exact (map_erase0' (·.1) E i).symm
end El
namespace El
open PySem PySem.Spec PyProof.Rows L2
/-! ### a def of the text as callers see it -/
structure Df (P : Program) (w : World) (K : PySem.W.Frag) (mg : Str → Option Value) (base : Heap) (k : Nat) (x : Str) (ps : List Str) (st : Stmt) (sp : Sp) : Prop where
  ex : ∃ (f : Addr) (fd : FuncData), Fun K x x st f fd ∧ mg x = some (.ref f) ∧ FnOk P w K mg base CX0 k f fd ps sp ∧ Binds K fd ps []
/-- where a def stands -/
structure At (K : PySem.W.Frag) (mg : Str → Option Value) (x : Str) (ps : List Str) (st : Stmt) : Prop where
  ex : ∃ (f : Addr) (fd : FuncData), Fun K x x st f fd ∧ mg x = some (.ref f) ∧ Binds K fd ps []
theorem At.df {P : Program} {w : World} {K : PySem.W.Frag} {mg : Str → Option Value} {base : Heap} {k : Nat} {x : Str} {ps : List Str} {st : Stmt} {sp : Sp} (A : At K mg x ps st)
    (h : ∀ f fd, Fun K x x st f fd → FnOk P w K mg base CX0 k f fd ps sp) : Df P w K mg base k x ps st sp := by
  obtain ⟨f, fd, F, m, b⟩ := A.ex
  exact ⟨f, fd, F, m, h f fd F, b⟩
section
variable {X : Cx} {k : Nat} {x : Str} {ps : List Str} {st : Stmt} {sp : Sp} {p pos : Pos} {e : Expr} {es : List Expr} {kws : List Keyword} {t tk : TA}
theorem pe_df (D : Df X.prog X.w X.K X.mg X.base k x ps st sp) (hr : Room k X.A) (hg : Gl X x) (ha : PA X (e :: es) t) (hdb : (x == ("__debug__" : Str)) = false := by decide)
    (he : starEach (e :: es) X.env = (false, eval e X.env) :: starEach es X.env := by rfl) (hpl : (backTo pos (starEach es X.env)).any (·.1) = false := by rfl) : PE X (.Call (.Name x p) (e :: es) [] pos) (tCall sp [] E0 t) := by
  obtain ⟨f, fd, F, m, G, b⟩ := D.ex
  exact pe_call G hr hg m F.kp b .nil pass0 ha hdb he hpl
theorem pe_df0 (D : Df X.prog X.w X.K X.mg X.base k x ps st sp) (hr : Room k X.A) (hg : Gl X x) (hdb : (x == ("__debug__" : Str)) = false := by decide) : PE X (.Call (.Name x p) [] [] pos) (tCall sp [] E0 tNil) := by
  obtain ⟨f, fd, F, m, G, b⟩ := D.ex
  exact pe_call0 G hr hg m F.kp b .nil pass0 hdb
def tCallW (n : Nat) (sp : Sp) (g : List V → List V) (tk : TA) : TE := fun σ H Q => tk σ H fun zs H2 => zs.length = n ∧ sp (g zs) H2 Q E0
/-- f(k = v, ..): keywords alone -/
theorem pe_dfK (D : Df X.prog X.w X.K X.mg X.base k x ps st sp) (ks : List Str) (g : {α : Type} → List α → List α) (hr : Room k X.A) (hg : Gl X x) (hkw : PK X kws tk)
    (hb : ∀ (kV doc pm : Value) (an : Option Addr) (cdv ct : Value) (ws : List Value), ws.length = ks.length → bindArgs (PySem.W.fnOf x x (defArgs st) (defBody st) (defScope st) .none kV doc pm an cdv ct) ⟨[], ks.zip ws⟩ = pure (ps.zip (g ws)))
    (hrel : ∀ {zs : List V} {ws : List Value}, Vals zs ws → Vals (g zs) (g ws))
    (hall : (backToKw pos (keywordEach kws X.env)).all (·.1.isSome) = true := by rfl) (hks : (backToKw pos (keywordEach kws X.env)).filterMap (·.1) = ks := by rfl) (hdb : (x == ("__debug__" : Str)) = false := by decide)
    (hpl : ((backTo pos (starEach [] X.env)).any (·.1) || (backToKw pos (keywordEach kws X.env)).any (·.1.isNone)) = false := by rfl) :
    PE X (.Call (.Name x p) [] kws pos) (tCallW ks.length sp (fun zs => g zs) tk) := by
  obtain ⟨f, fd, F, m, G, b⟩ := D.ex
  have kp := F.kp
  have KB : KBn X.K fd ps 0 ks (fun us ws => us ++ g ws) (fun vs zs => vs ++ g zs) := by
    obtain ⟨oc, od, kV, doc, pm, an, cdv, ct, osl, rfl, lk, hcd⟩ := F.ex
    refine ⟨fun s us ws hK l1 l2 => ?_, fun {vs us zs ws} r rz => Vals.append r (hrel rz)⟩
    obtain rfl := List.eq_nil_of_length_eq_zero l1
    exact .of_eq (hb kV doc pm an cdv ct ws l2)
  refine ⟨fun pins s σ H Q I h => ?_⟩
  refine wpAny_Call_Name_kw (ld_glob I hg m ?_ hdb)
  refine PySem.W.callWith_KW0 (h₀ := X.base) I.ok.mod.kin kp hall ?_ hpl
  refine thn (hkw.run pos pins s σ H _ I h) fun ws s2 ⟨zs, H2, I2, rz, l2, q2⟩ => ⟨I2.kIn, ?_⟩
  rw [hks]
  exact run_fnN (us := []) (vs := []) G hr KB pass0 I2 .nil rz rfl l2 q2
end
theorem Df.at {P : Program} {w : World} {K : PySem.W.Frag} {mg : Str → Option Value} {base : Heap} {k : Nat} {x : Str} {ps : List Str} {st : Stmt} {sp : Sp} {fa : Addr} {fd : FuncData} {oc : Value} {od : Option Addr} {sl : Array (Option Value)}
    (D : Df P w K mg base k x ps st sp) (hf : mg x = some (.ref fa)) (l : K.lookup fa = some ⟨oc, od, .func fd, sl⟩) : FnOk P w K mg base CX0 k fa fd ps sp := by
  obtain ⟨f, fd', F, m, G, b⟩ := D.ex
  obtain rfl : fa = f := by
    have e := hf.symm.trans m
    injection e with e
    injection e
  obtain ⟨oc', od', kV, doc, pm, an, cdv, ct, osl, e1, lk, hcd⟩ := F.ex
  have e := l.symm.trans lk
  injection e with e
  injection e with _ _ e _
  injection e with e
  rw [e]
  exact G
theorem At.mk' {K : PySem.W.Frag} {mg : Str → Option Value} {h : Heap} {x : Str} {ps : List Str} {st : Stmt} {f : Addr} {oc : Value} {od an : Option Addr} {osl : Array (Option Value)} {kV doc pm cdv ct : Value} (X : K.In h) (G : h.Ns mainGlobals mg)
    (a : PySem.W.nsIn K mainGlobals x = some (some (.ref f))) (l : K.lookup f = some ⟨oc, od, .func (PySem.W.fnOf x x (defArgs st) (defBody st) (defScope st) .none kV doc pm an cdv ct), osl⟩)
    (c : PySem.W.codeIn K cdv x = true) (k : PySem.W.keepIn K (.ref f) = true)
    (b : ∀ (kV doc pm : Value) (an : Option Addr) (cdv ct : Value) (us : List Value), us.length = ps.length → bindArgs (PySem.W.fnOf x x (defArgs st) (defBody st) (defScope st) .none kV doc pm an cdv ct) ⟨us, []⟩ = pure (ps.zip us)) : At K mg x ps st :=
  have F := fun_mk (st := st) l c k
  ⟨f, _, F, PySem.W.mg_of X G a, F.binds b⟩
end El
namespace El
open PySem PySem.Spec PyProof.Rows L2
section
variable {X : Cx}
/-! sorted(..., reverse=b) of anything whose walk is known -/
/-- partners: each pair is something of ours and the value that stands for it -/
abbrev Partners (P : List (V × Value)) : Prop := ∀ p ∈ P, RelV p.1 p.2
theorem partners_of : ∀ {xs : List V} {us : List Value}, Vals xs us → ∃ P, Partners P ∧ P.map Prod.fst = xs ∧ P.map Prod.snd = us
  | _, _, .nil => ⟨[], fun _ m => (List.not_mem_nil m).elim, rfl, rfl⟩
  | _, _, .cons h t =>
    let ⟨P, hP, e1, e2⟩ := partners_of t
    ⟨(_, _) :: P, fun p m => (List.mem_cons.mp m).elim (fun e => e ▸ h) (hP p), congrArg _ e1, congrArg _ e2⟩
theorem Partners.vals : ∀ {P : List (V × Value)}, Partners P → Vals (P.map Prod.fst) (P.map Prod.snd)
  | [], _ => .nil
  | _ :: _, h => .cons (h _ (.head _)) (Partners.vals fun p m => h p (.tail _ m))
/-- the values in another order: the partners go along -/
theorem go_along {α β : Type} {f : α → β} {ys : List β} : ∀ {P : List α}, ys.Perm (P.map f) → ∃ P' : List α, P'.Perm P ∧ P'.map f = ys := by
  suffices key : ∀ {as bs : List β}, as.Perm bs → ∀ P : List α, P.map f = as → ∃ P' : List α, P'.Perm P ∧ P'.map f = bs from
    fun {P} h => key h.symm P rfl
  intro as bs h
  induction h with
  | nil => exact fun P e => ⟨P, .refl _, e⟩
  | cons x _ ih =>
    intro P e
    match P, e with
    | q :: P, e =>
      obtain ⟨P', hp, e'⟩ := ih P (List.cons.inj e).2
      exact ⟨q :: P', hp.cons q, by rw [List.map_cons, e', (List.cons.inj e).1]⟩
  | swap x y l =>
    intro P e
    match P, e with
    | q :: r :: P, e => exact ⟨r :: q :: P, .swap .., by
        have e1 := List.cons.inj e
        have e2 := List.cons.inj e1.2
        rw [List.map_cons, List.map_cons, e1.1, e2.1, e2.2]⟩
  | trans _ _ ih1 ih2 =>
    intro P e
    obtain ⟨P1, h1, e1⟩ := ih1 P e
    obtain ⟨P2, h2, e2⟩ := ih2 P1 e1
    exact ⟨P2, h2.trans h1, e2⟩
/-- forwards or backwards -/
abbrev turn {α : Type} (b : Bool) (l : List α) : List α := if b = true then l.reverse else l
theorem turn_map {α β : Type} (f : α → β) (l : List α) : ∀ b, (turn b l).map f = turn b (l.map f)
  | true => List.map_reverse ..
  | false => rfl
theorem turn_perm {α : Type} (l : List α) : ∀ b, (turn b l).Perm l
  | true => l.reverse_perm
  | false => .refl _
theorem turn_arr {α : Type} (l : List α) : ∀ b : Bool, (if b = true then l.toArray.reverse else l.toArray) = (turn b l).toArray
  | true => List.reverse_toArray ..
  | false => rfl
/-- the walk over v gathers what stands for xs, and nothing that lay there is touched -/
def Gathers (X : Cx) (s : Shared) (v : Value) (xs : List V) : Prop :=
  ∀ R : List Value → Shared → Prop, (∀ us h t, Vals xs us → (∀ b o, s.heap.get? b = some o → h.get? b = some o) → R us { s with heap := h, toks := t }) → wpAny (model X.prog X.w) X.A.in1 (collect v) R X.xe s
theorem sorted_gathered {pins : List (Addr × Obj)} {σ : L2.St} {H : Hp} {s : Shared} {Q : VK} {b : Bool} {v : Value} {xs : List V} {less : Value → Value → Bool}
    (I : Inv X pins σ H s) (few : xs.length ≤ sizeLine) (walk : Gathers X s v xs) (O : SrtO.Swo less)
    (able : ∀ (us : List Value) (s' : Shared) (l : Addr), 2 ≤ us.length → Vals xs us → Inv X pins σ (upd H l (.lst xs)) s' → H l = none → SrtO.SortableO X.prog X.w X.A.in1.in1 s' l us less)
    (q : ∀ (P : List (V × Value)) (l : Addr), Partners P → (P.map Prod.fst).Perm xs → SrtO.Srtd less (P.map Prod.snd) → H l = none → Q (.ref l) (upd H l (.lst (turn b (P.map Prod.fst))))) :
    wpAny (model X.prog X.w) X.A (call (.builtin "sorted") [v] [(Str.ofString "reverse", .bool b)]) (EP X pins σ Q) X.xe s := by
  refine call_function_entry_kw kind_sorted plain_sorted entry_sorted (args_sorted_rev v (.bool b)) ?_
  refine wpAny_bind (m := checkCount "sorted" 1 1 _) (wpAny_pure ?_)
  refine wpAny_bind (walk _ fun us h t for_xs grown => ?_)
  have n2 : us.length ≤ sizeLine := for_xs.length ▸ few
  refine wpAny_bind (wpAny_newList (wpAny_bind (wpAny_holding ?_)) n2)
  -- the new list lies there, and is ours
  generalize hl : ({ s with heap := h, toks := t } : Shared).heap.objs.size = l
  have hl' : h.objs.size = l := hl
  have at_l : (h.push (seqObj "list" us.toArray 0)).get? l = some (seqObj "list" us.toArray 0) := hl' ▸ Heap.get?_push_size _ rfl
  have free : H l = none := hl' ▸ (I.kept (t' := t) grown).hok.fresh (Nat.le_refl _)
  have J : Inv X pins σ (upd H l (.lst xs)) { s with heap := h.push (seqObj "list" us.toArray 0), toks := t } :=
    (I.kept (t' := t) grown).laid (t' := t) (fun _ _ => Heap.get?_push_of_some _) (Nat.le_of_eq hl) ⟨few, _, 0, for_xs, at_l⟩
  -- it is sorted where it lies
  refine PyProof.Rows.wpAny_call_entry_kw slot_list_sort ⟨_, at_l, rfl⟩ entry_list_sort ?_ (args_list_sort_rev _ (.bool b))
  refine SrtR.list_sort_ordR O at_l n2 (fun two => able us _ l two for_xs J free) fun out up same => ⟨_, rfl, wpAny_pure ⟨_, rfl, ?_⟩⟩
  obtain ⟨P0, hP0, rfl, rfl⟩ := partners_of for_xs
  obtain ⟨P, p1, rfl⟩ := go_along (same.perm.trans (turn_perm (P0.map Prod.snd) b))
  rw [turn_arr]
  obtain ⟨e, he⟩ := sortedHeap_at (out := (turn b (P.map Prod.snd)).toArray) at_l
  have hP : Partners P := fun p m => hP0 p (p1.mem_iff.mp m)
  have ends : Partners (turn b P) := fun p m => hP p ((turn_perm P b).mem_iff.mp m)
  have done := J.write (o := .lst (turn b (P.map Prod.fst))) (t' := t) (h' := sortedHeap (h.push (seqObj "list" (P0.map Prod.snd).toArray 0)) l (P0.map Prod.snd) (turn b (P.map Prod.snd)).toArray)
    (by rw [upd_same]; trivial) (.inl rfl) (fun c u away there => (sortedHeap_old away (Heap.lt_size there)).trans there) ⟨_, he⟩
    ⟨by rw [((turn_perm _ b).trans (p1.map _)).length_eq]; exact few, _, e, by rw [← turn_map, ← turn_map]; exact ends.vals, he⟩
  rw [upd_upd] at done
  exact ⟨.ref l, _, done, rfl, q P l hP (p1.map _) up free⟩
/-- the walk over a dict: its keys -/
theorem gathers_dict {pins : List (Addr × Obj)} {σ : L2.St} {H : Hp} {s : Shared} {a : Addr} {kvs : List (L2.Key × V)} (calm : X.calm = true) (I : Inv X pins σ H s) (d : Rd H a (.dK kvs)) :
    kvs.length ≤ sizeLine ∧ Gathers X s (.ref a) (kvs.map fun e => kV e.1) := by
  have ⟨few, own, es, same, lies⟩ := dk_rd I.hok d
  have ⟨ep, lies⟩ := lies.dictAt
  have keys : (kvs.map fun e => kV e.1) = es.map fun e => kV e.1 := by
    have h := congrArg (List.map kV) same.keys
    rw [List.map_map, List.map_map] at h
    exact h
  refine ⟨few, fun R go => ?_⟩
  rw [keys] at go
  exact PySem.W.kdu_collect (PySem.W.kdl_dict (knd := mixKind X.prog X.w) own) (I.ok.hd calm) lies (same.length ▸ few)
    fun h t got grown is => go _ h t (keys_at (by simpa using is.1) fun j v at_j => is.2 j v (by simpa using at_j)) grown
theorem ints_back {us : List Value} {ns : List Int} (h : IntsAre us ns) : us.map SrtO.iv = ns := by
  induction h with
  | nil => rfl
  | cons n t _ ih => exact congrArg (n :: ·) ih
/-- sorted(d, reverse=b) of a dict whose keys are ints -/
def rSortedRevD (b : Bool) : List V → List V → Hp → VK → Prop := fun vs zs H Q => ∃ (a : Addr) (kvs : List (L2.Key × V)) (ks : List Int), vs = [V.ref a] ∧ zs = [.bl b] ∧ Rd H a (.dK kvs) ∧ kvs.map (·.1) = ks.map Sum.inl ∧
  ∀ (ns' : List Int) (p : Addr), ns'.Perm ks → OrdB b ns' → H p = none → Q (.ref p) (upd H p (.lst (ns'.map V.int)))
theorem cr_sortedRevD {b : Bool} (calm : X.calm = true) : CallRK X (.builtin "sorted") [Str.ofString "reverse"] (rSortedRevD b) := by
  rintro pins s σ H _ _ us ws Q I one by_kw ⟨a, kvs, ks, rfl, rfl, d, hks, q⟩
  obtain ⟨v, w, rfl, rfl, rfl, rfl⟩ : ∃ v w, us = [v] ∧ ws = [w] ∧ v = .ref a ∧ w = .bool b := by
    cases one with | cons e1 t1 => cases t1; cases by_kw with | cons e2 t2 => cases t2; exact ⟨_, _, rfl, rfl, e1, e2⟩
  have keys : (kvs.map fun e => kV e.1) = ks.map V.int := by
    have h := congrArg (List.map kV) hks
    rw [List.map_map, List.map_map] at h
    exact h
  have ⟨few, walk⟩ := gathers_dict calm I d
  rw [keys] at walk
  refine sorted_gathered I (by rw [← keys, List.length_map]; exact few) walk SrtO.swo_int (fun us _ _ two r _ _ => SrtO.ints_sortable r.ints two) fun P l hP perm up free => ?_
  obtain ⟨ns, np, en⟩ := go_along perm
  have back := ints_back (Vals.ints (en ▸ hP.vals))
  rw [← en, ← turn_map]
  refine q _ l ((turn_perm ns b).trans np) ?_ free
  have rise : ns.Pairwise (· ≤ ·) := by
    rw [← back, List.pairwise_map]
    exact up.imp fun h => Int.not_lt.mp (of_decide_eq_false h)
  cases b with
  | false => exact rise
  | true => exact List.pairwise_reverse.mpr rise
end
end El
namespace El
open PySem PySem.Spec PyProof.Rows L2
/-! ### heaps -/
/-- what B names stays as it was -/
def Kp (B : Addr → Prop) (H H' : Hp) : Prop := ∀ b o, B b → H b = some o → H' b = some o
theorem Kp.refl {B : Addr → Prop} {H : Hp} : Kp B H H := fun _ _ _ e => e
theorem Kp.trans {B : Addr → Prop} {H H1 H2 : Hp} (h : Kp B H H1) (k : Kp B H1 H2) : Kp B H H2 := fun b o hb e => k b o hb (h b o hb e)
theorem Kp.of {B : Addr → Prop} {H H' : Hp} (h : Same H H') : Kp B H H' := fun b o _ e => h b o e
theorem Kp.same {H H' : Hp} (h : Kp (fun _ => True) H H') : Same H H' := fun b o e => h b o trivial e
theorem same_new {H : Hp} {p : Addr} {o : HO} (h : H p = none) : Same H (upd H p o) := fun b u e => by
  rw [upd_ne (ne_of_none e h)]
  exact e
theorem Same.mut {H H' : Hp} {p : Addr} {o : HO} (e : Same H H') (h : H p = none) : Same H (upd H' p o) := fun b u q => by
  rw [upd_ne (ne_of_none q h)]
  exact e b u q
theorem Kp.mut {B : Addr → Prop} {H H' : Hp} {p : Addr} {o : HO} (e : Kp B H H') (h : ¬ B p) : Kp B H (upd H' p o) := fun b u hb q => by
  have n : b ≠ p := fun z => h (z ▸ hb)
  rw [upd_ne n]
  exact e b u hb q
theorem Kp.new {B : Addr → Prop} {H H' : Hp} {p : Addr} {o : HO} (e : Kp B H H') (h : H' p = none) : Kp B H (upd H' p o) := e.trans (Kp.of (same_new h))
theorem Kp.mutF {B : Addr → Prop} {H H' : Hp} {p : Addr} {o : HO} (e : Kp B H H') (h : H p = none) : Kp B H (upd H' p o) := fun b u hb q => by
  rw [upd_ne (ne_of_none q h)]
  exact e b u hb q
theorem Kp.none {B : Addr → Prop} {H H' : Hp} (e : Kp B H H') {p : Addr} (hb : B p) (h : H' p = none) : H p = none := by
  cases z : H p with
  | none => rfl
  | some x =>
    have := e _ _ hb z
    rw [h] at this
    cases this
theorem no_of {H : Hp} {a p : Addr} {o : HO} (h : H a = some o) (hp : H p = none) : p ≠ a := fun z => by
  rw [z, h] at hp
  cases hp
theorem same_none {H H' : Hp} (e : Same H H') {p : Addr} (h : H' p = none) : H p = none := e.free h
theorem ils {n : Nat} (h : n ≤ 100000) : n < sizeLine := Nat.lt_of_le_of_lt h (by decide)
theorem ile {n : Nat} (h : n ≤ 100000) : n ≤ sizeLine := Nat.le_of_lt (ils h)
theorem ints_at {ns : List Int} {i : Nat} {x : V} (h : (ns.map V.int)[i]? = some x) : ∃ n, ns[i]? = some n ∧ x = .int n := by
  rw [List.getElem?_map] at h
  cases e : ns[i]? with
  | none => rw [e] at h; cases h
  | some n => rw [e] at h; exact ⟨n, rfl, (Option.some.inj h).symm⟩
theorem refs_at {ts : List Addr} {i : Nat} {x : V} (h : (ts.map V.ref)[i]? = some x) : ∃ t, ts[i]? = some t ∧ x = .ref t := by
  rw [List.getElem?_map] at h
  cases e : ts[i]? with
  | none => rw [e] at h; cases h
  | some t => rw [e] at h; exact ⟨t, rfl, (Option.some.inj h).symm⟩
theorem at_lt {α : Type} {l : List α} {i : Nat} {x : α} (h : l[i]? = some x) : i < l.length := (List.getElem?_eq_some_iff.mp h).1
theorem at_some {α : Type} {l : List α} {i : Nat} (h : i < l.length) : ∃ x, l[i]? = some x := ⟨l[i], List.getElem?_eq_getElem h⟩
theorem take_snoc {α : Type} {l : List α} {i : Nat} {x : α} (h : l[i]? = some x) : l.take (i + 1) = l.take i ++ [x] := by
  rw [List.take_add_one, h]
  rfl
theorem take_full {α : Type} (l : List α) : l.take l.length = l := List.take_length
/-! ### a list of pairs of ints -/
structure GsAt (H : Hp) (B : Addr → Prop) (a : Addr) (ts : List Addr) (gs : List (Int × Int)) : Prop where
  top : H a = some (.lst (ts.map V.ref))
  ba : B a
  len : ts.length = gs.length
  at' : ∀ (i : Nat) (t : Addr) (g : Int × Int), ts[i]? = some t → gs[i]? = some g → H t = some (.tup [.int g.1, .int g.2])
  b : ∀ t ∈ ts, B t
theorem GsAt.keep {H H' : Hp} {B : Addr → Prop} {a : Addr} {ts : List Addr} {gs : List (Int × Int)} (h : GsAt H B a ts gs) (k : Kp B H H') : GsAt H' B a ts gs :=
  ⟨k _ _ h.ba h.top, h.ba, h.len, fun i t g e f => k _ _ (h.b t (List.mem_of_getElem? e)) (h.at' i t g e f), h.b⟩
theorem GsAt.same {H H' : Hp} {B : Addr → Prop} {a : Addr} {ts : List Addr} {gs : List (Int × Int)} (h : GsAt H B a ts gs) (k : Same H H') : GsAt H' B a ts gs := h.keep (.of k)
theorem GsAt.weaken {H : Hp} {B B' : Addr → Prop} {a : Addr} {ts : List Addr} {gs : List (Int × Int)} (h : GsAt H B a ts gs) (k : ∀ b, B b → B' b) : GsAt H B' a ts gs :=
  ⟨h.top, k _ h.ba, h.len, h.at', fun t m => k _ (h.b t m)⟩
theorem GsAt.seq {K : PySem.W.Frag} {H : Hp} {B : Addr → Prop} {a : Addr} {ts : List Addr} {gs : List (Int × Int)} (h : GsAt H B a ts gs) : SqL K H a (ts.map V.ref) := SqL.of h.top
theorem GsAt.get {H : Hp} {B : Addr → Prop} {a : Addr} {ts : List Addr} {gs : List (Int × Int)} (h : GsAt H B a ts gs) {i : Nat} {x : V} (e : (ts.map V.ref)[i]? = some x) : ∃ t g, x = .ref t ∧ gs[i]? = some g ∧ H t = some (.tup [.int g.1, .int g.2]) := by
  obtain ⟨t, e1, rfl⟩ := refs_at e
  have hi := at_lt e1
  rw [h.len] at hi
  obtain ⟨g, e2⟩ := at_some hi
  exact ⟨t, g, rfl, e2, h.at' i t g e1 e2⟩
/-- pushed -/
theorem GsAt.push {H : Hp} {B : Addr → Prop} {a : Addr} {ts : List Addr} {gs : List (Int × Int)} (h : GsAt H B a ts gs) (hn : a ∉ ts) {q : Addr} {g : Int × Int} (e : H q = some (.tup [.int g.1, .int g.2])) (bq : B q) :
    GsAt (upd H a (.lst (ts.map V.ref ++ [.ref q]))) B a (ts ++ [q]) (gs ++ [g]) := by
  refine ⟨?_, h.ba, ?_, fun i t x e1 e2 => ?_, fun t m => ?_⟩
  · rw [upd_same, List.map_append]
    rfl
  · rw [List.length_append, List.length_append, h.len]
    rfl
  · have nq : q ≠ a := fun z => by
      rw [z, h.top] at e
      cases e
    by_cases hi : i < ts.length
    · rw [List.getElem?_append_left hi] at e1
      rw [List.getElem?_append_left (by rw [← h.len]; exact hi)] at e2
      have nt : t ≠ a := fun z => hn (z ▸ List.mem_of_getElem? e1)
      rw [upd_ne nt]
      exact h.at' i t x e1 e2
    · have hi' : i = ts.length := by
        have := at_lt e1
        rw [List.length_append, List.length_singleton] at this
        omega
      subst hi'
      rw [List.getElem?_append_right (Nat.le_refl _), Nat.sub_self] at e1
      rw [h.len, List.getElem?_append_right (Nat.le_refl _), Nat.sub_self] at e2
      have e1' : q = t := Option.some.inj e1
      have e2' : g = x := Option.some.inj e2
      subst e1' e2'
      rw [upd_ne nq]
      exact e
  · rcases List.mem_append.mp m with m | m
    · exact h.b t m
    · rw [List.mem_singleton.mp m]
      exact bq
theorem GsAt.there {H : Hp} {B : Addr → Prop} {a : Addr} {ts : List Addr} {gs : List (Int × Int)} (h : GsAt H B a ts gs) : ∀ b, (b = a ∨ b ∈ ts) → ∃ x, H b = some x := fun b m => by
  rcases m with rfl | m
  · exact ⟨_, h.top⟩
  · obtain ⟨i, e⟩ := List.mem_iff_getElem?.mp m
    have hl := at_lt e
    rw [h.len] at hl
    obtain ⟨g, eg⟩ := at_some hl
    exact ⟨_, h.at' i b g e eg⟩
theorem GsAt.reB {H : Hp} {B B' : Addr → Prop} {a : Addr} {ts : List Addr} {gs : List (Int × Int)} (h : GsAt H B a ts gs) (k : ∀ b, (b = a ∨ b ∈ ts) → B b → B' b) : GsAt H B' a ts gs :=
  ⟨h.top, k _ (.inl rfl) h.ba, h.len, h.at', fun t m => k _ (.inr m) (h.b t m)⟩
/-- what stands in H and is named by B -/
def Liv (H : Hp) (B : Addr → Prop) (b : Addr) : Prop := (∃ x, H b = some x) ∧ B b
theorem GsAt.liv {H : Hp} {B : Addr → Prop} {a : Addr} {ts : List Addr} {gs : List (Int × Int)} (h : GsAt H B a ts gs) : GsAt H (Liv H B) a ts gs := h.reB fun b m hb => ⟨h.there b m, hb⟩
theorem Liv.no {H : Hp} {B : Addr → Prop} {p : Addr} (h : H p = none) : ¬ Liv H B p := fun ⟨⟨x, e⟩, _⟩ => by
  rw [h] at e
  cases e
theorem Liv.of {H : Hp} {B : Addr → Prop} {p : Addr} {o : HO} (h : H p = some o) (b : B p) : Liv H B p := ⟨⟨o, h⟩, b⟩
theorem Kp.weak {B B' : Addr → Prop} {H H' : Hp} (k : Kp B H H') (h : ∀ b, B' b → B b) : Kp B' H H' := fun b o hb e => k b o (h b hb) e
theorem Kp.liv {B : Addr → Prop} {H0 H H' : Hp} (k : Kp B H H') : Kp (Liv H0 B) H H' := k.weak fun _ h => h.2
/-! ### a list of lists of ints, each its own -/
structure RmsAt (H : Hp) (B : Addr → Prop) (o : Addr) (ts : List Addr) (rs : List (List Int)) : Prop where
  top : H o = some (.lst (ts.map V.ref))
  bo : B o
  nd : ts.Nodup
  no : o ∉ ts
  len : ts.length = rs.length
  at' : ∀ (i : Nat) (t : Addr) (r : List Int), ts[i]? = some t → rs[i]? = some r → H t = some (.lst (r.map V.int))
  b : ∀ t ∈ ts, B t
theorem RmsAt.keep {H H' : Hp} {B : Addr → Prop} {a : Addr} {ts : List Addr} {rs : List (List Int)} (h : RmsAt H B a ts rs) (k : Kp B H H') : RmsAt H' B a ts rs :=
  ⟨k _ _ h.bo h.top, h.bo, h.nd, h.no, h.len, fun i t g e f => k _ _ (h.b t (List.mem_of_getElem? e)) (h.at' i t g e f), h.b⟩
theorem RmsAt.same {H H' : Hp} {B : Addr → Prop} {a : Addr} {ts : List Addr} {rs : List (List Int)} (h : RmsAt H B a ts rs) (k : Same H H') : RmsAt H' B a ts rs := h.keep (.of k)
theorem RmsAt.weaken {H : Hp} {B B' : Addr → Prop} {a : Addr} {ts : List Addr} {rs : List (List Int)} (h : RmsAt H B a ts rs) (k : ∀ b, B b → B' b) : RmsAt H B' a ts rs :=
  ⟨h.top, k _ h.bo, h.nd, h.no, h.len, h.at', fun t m => k _ (h.b t m)⟩
theorem RmsAt.seq {K : PySem.W.Frag} {H : Hp} {B : Addr → Prop} {a : Addr} {ts : List Addr} {rs : List (List Int)} (h : RmsAt H B a ts rs) : SqL K H a (ts.map V.ref) := SqL.of h.top
theorem RmsAt.get {H : Hp} {B : Addr → Prop} {a : Addr} {ts : List Addr} {rs : List (List Int)} (h : RmsAt H B a ts rs) {i : Nat} {x : V} (e : (ts.map V.ref)[i]? = some x) : ∃ t r, x = .ref t ∧ ts[i]? = some t ∧ rs[i]? = some r ∧ H t = some (.lst (r.map V.int)) := by
  obtain ⟨t, e1, rfl⟩ := refs_at e
  have hi := at_lt e1
  rw [h.len] at hi
  obtain ⟨g, e2⟩ := at_some hi
  exact ⟨t, g, rfl, e1, e2, h.at' i t g e1 e2⟩
theorem RmsAt.of {H : Hp} {B : Addr → Prop} {a : Addr} {ts : List Addr} {rs : List (List Int)} (h : RmsAt H B a ts rs) {i : Nat} {r : List Int} (e : rs[i]? = some r) : ∃ t, ts[i]? = some t ∧ H t = some (.lst (r.map V.int)) := by
  have hi := at_lt e
  rw [← h.len] at hi
  obtain ⟨t, e2⟩ := at_some hi
  exact ⟨t, e2, h.at' i t r e2 e⟩
theorem RmsAt.nil {H : Hp} {B : Addr → Prop} {o : Addr} (h : H o = some (.lst [])) (bo : B o) : RmsAt H B o [] [] :=
  ⟨h, bo, List.nodup_nil, by simp, rfl, fun i t r e _ => by simp at e, fun t m => by simp at m⟩
/-- a new empty list behind -/
theorem RmsAt.push {H : Hp} {B : Addr → Prop} {o : Addr} {ts : List Addr} {rs : List (List Int)} (h : RmsAt H B o ts rs) {q : Addr} {r : List Int} (hq : H q = none) (bq : B q) :
    RmsAt (upd (upd H q (.lst (r.map V.int))) o (.lst (ts.map V.ref ++ [.ref q]))) B o (ts ++ [q]) (rs ++ [r]) := by
  have nq : q ≠ o := no_of h.top hq
  have nqt : ∀ t ∈ ts, q ≠ t := fun t m => by
    obtain ⟨i, hi⟩ := List.mem_iff_getElem?.mp m
    have hl := at_lt hi
    rw [h.len] at hl
    obtain ⟨r', er⟩ := at_some hl
    exact no_of (h.at' i t r' hi er) hq
  refine ⟨?_, h.bo, ?_, ?_, ?_, fun i t x e1 e2 => ?_, fun t m => ?_⟩
  · rw [upd_same, List.map_append]
    rfl
  · rw [List.nodup_append]
    exact ⟨h.nd, by simp, fun a ha b hb => by
      rw [List.mem_singleton.mp hb]
      exact (nqt a ha).symm⟩
  · intro m
    rcases List.mem_append.mp m with m | m
    · exact h.no m
    · exact nq (List.mem_singleton.mp m).symm
  · rw [List.length_append, List.length_append, h.len]
    rfl
  · by_cases hi : i < ts.length
    · rw [List.getElem?_append_left hi] at e1
      rw [List.getElem?_append_left (by rw [← h.len]; exact hi)] at e2
      have nt : t ≠ o := fun z => h.no (z ▸ List.mem_of_getElem? e1)
      rw [upd_ne nt, upd_ne (nqt t (List.mem_of_getElem? e1)).symm]
      exact h.at' i t x e1 e2
    · have hi' : i = ts.length := by
        have := at_lt e1
        rw [List.length_append, List.length_singleton] at this
        omega
      subst hi'
      rw [List.getElem?_append_right (Nat.le_refl _), Nat.sub_self] at e1
      rw [h.len, List.getElem?_append_right (Nat.le_refl _), Nat.sub_self] at e2
      have e1' : q = t := Option.some.inj e1
      have e2' : r = x := Option.some.inj e2
      subst e1' e2'
      rw [upd_ne nq, upd_same]
  · rcases List.mem_append.mp m with m | m
    · exact h.b t m
    · rw [List.mem_singleton.mp m]
      exact bq
/-- one of them changed -/
theorem RmsAt.set {H : Hp} {B : Addr → Prop} {o : Addr} {ts : List Addr} {rs : List (List Int)} (h : RmsAt H B o ts rs) {i : Nat} {t : Addr} (e : ts[i]? = some t) (r : List Int) :
    RmsAt (upd H t (.lst (r.map V.int))) B o ts (rs.set i r) := by
  have nt : t ≠ o := fun z => h.no (z ▸ List.mem_of_getElem? e)
  refine ⟨?_, h.bo, h.nd, h.no, ?_, fun j u x e1 e2 => ?_, h.b⟩
  · rw [upd_ne nt.symm]
    exact h.top
  · rw [List.length_set]
    exact h.len
  · by_cases hj : j = i
    · subst hj
      have e' : u = t := Option.some.inj (e1.symm.trans e)
      subst e'
      rw [upd_same]
      have hl := at_lt e1
      rw [h.len] at hl
      rw [List.getElem?_set_self hl] at e2
      have : r = x := Option.some.inj e2
      rw [this]
    · rw [List.getElem?_set_ne (fun z => hj z.symm)] at e2
      have hut : u ≠ t := fun z => by
        subst z
        exact hj (nd_ix h.nd e1 e)
      rw [upd_ne hut]
      exact h.at' j u x e1 e2
theorem RmsAt.newTop {H H' : Hp} {B B' : Addr → Prop} {o : Addr} {ts : List Addr} {rs : List (List Int)} (h : RmsAt H B o ts rs) (k : ∀ b u, (b = o ∨ b ∈ ts) → H b = some u → H' b = some u) (kb : ∀ b, (b = o ∨ b ∈ ts) → B' b) : RmsAt H' B' o ts rs :=
  ⟨k _ _ (.inl rfl) h.top, kb _ (.inl rfl), h.nd, h.no, h.len, fun i t r e f => k _ _ (.inr (List.mem_of_getElem? e)) (h.at' i t r e f), fun t m => kb t (.inr m)⟩
/-! ### the dict of patience -/
def pks (gs : List (Int × Int)) : List (L2.Key × V) := gs.map fun g => (Sum.inl g.1, V.int g.2)
theorem pks_len (gs : List (Int × Int)) : (pks gs).length = gs.length := List.length_map _
theorem pks_keys (gs : List (Int × Int)) : (pks gs).map (·.1) = (gs.map (·.1)).map Sum.inl := by
  unfold pks
  rw [List.map_map, List.map_map]
  rfl
theorem pks_snoc (gs : List (Int × Int)) (g : Int × Int) : pks (gs ++ [g]) = pks gs ++ [(Sum.inl g.1, V.int g.2)] := List.map_append
theorem pks_none {gs : List (Int × Int)} {a : Int} (h : a ∉ gs.map (·.1)) : valV (pks gs) (Sum.inl a) = none := by
  induction gs with
  | nil => rfl
  | cons g gs ih =>
    have h' : ¬ (a = g.1 ∨ a ∈ gs.map (·.1)) := fun z => h (by rw [List.map_cons]; exact List.mem_cons.mpr z)
    have n : ¬ (Sum.inl g.1 : L2.Key) = Sum.inl a := fun z => h' (.inl (Sum.inl.inj z).symm)
    show valV ((Sum.inl g.1, V.int g.2) :: pks gs) (Sum.inl a) = none
    rw [valV_neg n]
    exact ih fun z => h' (.inr z)
theorem pks_some : ∀ {gs : List (Int × Int)} {g : Int × Int}, (gs.map (·.1)).Nodup → g ∈ gs → valV (pks gs) (Sum.inl g.1) = some (.int g.2)
  | x :: gs, g, nd, h => by
    have nd' : (x.1 :: gs.map (·.1)).Nodup := nd
    obtain ⟨n1, n2⟩ := List.nodup_cons.mp nd'
    show valV ((Sum.inl x.1, V.int x.2) :: pks gs) (Sum.inl g.1) = some (.int g.2)
    rcases List.mem_cons.mp h with e | h
    · subst e
      rw [valV_pos rfl]
    · have n : ¬ (Sum.inl x.1 : L2.Key) = Sum.inl g.1 := fun z => n1 (by
        rw [Sum.inl.inj z]
        exact List.mem_map.mpr ⟨g, h, rfl⟩)
      rw [valV_neg n]
      exact pks_some n2 h
theorem putK_snoc {gs : List (Int × Int)} {g : Int × Int} (h : g.1 ∉ gs.map (·.1)) : putK (pks gs) (Sum.inl g.1) (V.int g.2) = pks (gs ++ [g]) := by
  rw [putK_new _ (pks_none h), pks_snoc]
theorem Fit.take_no {gs : List (Int × Int)} (f : Fit gs) {i : Nat} {g : Int × Int} (h : gs[i]? = some g) : g.1 ∉ (gs.take i).map (·.1) := by
  intro m
  have e : gs = gs.take i ++ g :: gs.drop (i + 1) := by
    have hl := at_lt h
    have e2 : gs[i] = g := by
      rw [List.getElem?_eq_getElem hl] at h
      exact Option.some.inj h
    rw [← e2, List.getElem_cons_drop, List.take_append_drop]
  have nd := f.nd
  rw [e, List.map_append, List.nodup_append] at nd
  exact nd.2.2 _ m g.1 (by rw [List.map_cons]; exact List.mem_cons_self) rfl
/-! ### rules by a written part that is named (for what stands in a comprehension) -/
section
variable {X : Cx}
theorem lenK (K : PySem.W.Frag) (e : X.K = K := by rfl) : CallR X (.builtin "len") (fun xs H Q => ∃ p ys, xs = [.ref p] ∧ (SqL K H p ys ∨ SqT K H p ys) ∧ Q (.int ys.length) H) := by
  subst e
  exact call_len_seq
theorem ixlK (K : PySem.W.Frag) (e : X.K = K := by rfl) : IxR X (rIxL K) := by
  subst e
  exact ix_list
theorem ixtK (K : PySem.W.Frag) (e : X.K = K := by rfl) : IxR X (rIxT K) := by
  subst e
  exact ix_tup
theorem sllK (K : PySem.W.Frag) (e : X.K = K := by rfl) : SlR X (rSlL K) := by
  subst e
  exact sl_list
theorem eqDK (K : PySem.W.Frag) (hu : X.A.units + 64 < cLine) (e : X.K = K := by rfl) : OpR X (compareOp .Eq) (rEqD K) := by
  subst e
  exact op_eqD hu
theorem neDK (K : PySem.W.Frag) (hu : X.A.units + 64 < cLine) (e : X.K = K := by rfl) : OpR X (compareOp .NotEq) (rNeD K) := by
  subst e
  exact op_neD hu
theorem isiK (K : PySem.W.Frag) (e : X.K = K := by rfl) : CallR X (.builtin "isinstance") (rIsi K) := by
  subst e
  exact call_isi
theorem sumK (K : PySem.W.Frag) (hc : X.calm = true) (e : X.K = K := by rfl) : CallR X (.builtin "sum") (rSum K) := by
  subst e
  exact cr_sum hc
theorem inK (K : PySem.W.Frag) (e : X.K = K := by rfl) : OpR X (compareOp .In) (rIn K false) := by
  subst e
  exact op_in_seq
theorem notInK (K : PySem.W.Frag) (e : X.K = K := by rfl) : OpR X (compareOp .NotIn) (rIn K true) := by
  subst e
  exact op_notIn_seq
theorem listOfK (K : PySem.W.Frag) (e : X.K = K := by rfl) : CallR X (.type "list") (fun xs H Q => ∃ p ys, xs = [.ref p] ∧ (SqL K H p ys ∨ SqT K H p ys) ∧ ∀ l, H l = none → Q (.ref l) (upd H l (.lst ys))) := by
  subst e
  exact call_list_of
theorem pgTupK {es : List Expr} {k : Nat} {t : TGs} {pos : Pos} (K : PySem.W.Frag) (n : Nat) (hc : X.calm = true) (h : PGs X es t)
    (hn : (assignEach es X.env).length = n := by rfl) (hst : (assignEach es X.env).findIdx? (·.1) = none := by rfl) (e : X.K = K := by rfl) : PG X (.Tuple es k pos) (gTup K n t) := by
  subst e
  exact pg_tup hc h hn hst
theorem bmK {T : String} {name : Str} {id : String} {o e : Expr} {es : List Expr} {to : TE} {t : TA} {apos cpos : Pos} {r : V → List V → Hp → VK → Prop} (K : PySem.W.Frag) (pa : PlainAttrs T) (slot : Slot T name id) (hty : typeOf (.builtin id) = pure (.type "method_descriptor")) (hm : MtR X id r) (ho : PE X o to) (ha : PA X (e :: es) t)
    (hbase : attributeBase o name X.env (eval o X.env) = eval o X.env := by rfl)
    (hfew : ((backTo cpos (starEach (e :: es) X.env)).all (fun x => !x.1) && (backToKw cpos (keywordEach [] X.env)).all (fun x => x.1.isSome)
      && decide ((e :: es).length + ([] : List Keyword).length + (if ([] : List Keyword).isEmpty then 0 else 1) < 30)) = true := by rfl)
    (hline : (apos.endLine == cpos.line) = true := by rfl) (hs : starEach (e :: es) X.env = (false, eval e X.env) :: starEach es X.env := by rfl) (hplain : (backTo cpos (starEach es X.env)).any (·.1) = false := by rfl) (eK : X.K = K := by rfl) :
    PE X (.Call (.Attribute o name apos) (e :: es) [] cpos) (tBM K T r to t) := by
  subst eK
  exact pe_bm pa slot hty hm ho ha hbase hfew hline hs hplain
end
/-! ### cuts: what holds between two parts of a body -/
section
variable {σ : L2.St} {H : Hp} {D : Ends} {c : TT} {t u tb : TS}
theorem while_to (W : Nat → L2.St → Hp → Prop) (E : L2.St → Hp → Prop) (h0 : ∃ m, W m σ H) (hd : ∀ σ H, E σ H → D.nx σ H)
    (hs : ∀ X : L2.St → Hp → Prop, (∀ σ H, E σ H → X σ H) → ∀ m σ H, W m σ H → c σ H fun b H1 => if b = true then ∃ N : L2.St → Hp → Prop, (∀ σ' H', N σ' H' → ∃ m', m' < m ∧ W m' σ' H') ∧ tb { D with nx := N, ct := N, bk := X } σ H1 else X σ H1) : tWhile c tb D σ H := ⟨W, h0, hs D.nx hd⟩
theorem seq_to (E : L2.St → Hp → Prop) (h1 : ∀ X : L2.St → Hp → Prop, (∀ σ H, E σ H → X σ H) → t { D with nx := X } σ H) (h2 : ∀ σ H, E σ H → u D σ H) : tSeq t u D σ H := h1 (u D) h2
theorem seq_set {i : Nat} {v : V} (h : u D (σ.set i (some v)) H) : tSeq (tAsg (tC v) (gName i)) u D σ H := h
theorem st_to (E : L2.St → Hp → Prop) (h1 : ∀ X : L2.St → Hp → Prop, (∀ σ H, E σ H → X σ H) → t { D with nx := X } σ H) (h2 : ∀ σ H, E σ H → D.nx σ H) : t D σ H := h1 D.nx h2
end
theorem ixN_of {n j : Nat} (hj : j < n) : ixN n (j : Int) = some j := by
  unfold ixN
  rw [if_pos (by omega), if_pos (by omega), Int.toNat_natCast]
theorem seq_ix {n j : Nat} (hj : j < n) : seqIndex? (j : Int) n = some j := (ixN_seq (ixN_of hj)).1
theorem at_pick {xs : List V} {r : Int} (h0 : 0 ≤ r) (h1 : r < xs.length) : ∃ v, atI xs r = some v ∧ v ∈ xs := by
  obtain ⟨k, rfl⟩ : ∃ k : Nat, r = k := ⟨r.toNat, by omega⟩
  obtain ⟨v, e⟩ := at_some (show k < xs.length by omega)
  exact ⟨v, atI_nat e, List.mem_of_getElem? e⟩
theorem erase_perm {α : Type} : ∀ {l : List α} {k : Nat} {x : α}, l[k]? = some x → (x :: l.eraseIdx k).Perm l
  | [], _, _, h => by simp at h
  | a :: l, 0, x, h => by
    obtain rfl : a = x := Option.some.inj h
    exact List.Perm.refl _
  | a :: l, k + 1, x, h => by
    have ih := erase_perm (l := l) (k := k) (x := x) (by simpa using h)
    exact (List.Perm.swap a x (l.eraseIdx k)).trans (ih.cons a)
/-! ### data -/
def dInts (ns : List Int) : PyData := .list (ns.map .int)
def dGs (gs : List (Int × Int)) : PyData := .list (gs.map fun g => .tuple [.int g.1, .int g.2])
def dRows (rs : List (List Int)) : PyData := .list (rs.map dInts)
theorem canAll : ∀ {xs : List PyData}, (∀ x ∈ xs, x.canLay0 = true) → PyData.canLayAll0 xs = true
  | [], _ => by simp [PyData.canLayAll0]
  | x :: xs, h => by
    rw [PyData.canLayAll0, h x List.mem_cons_self, canAll fun y hy => h y (List.mem_cons_of_mem _ hy)]
    rfl
theorem depAll {n : Nat} : ∀ {xs : List PyData}, (∀ x ∈ xs, x.depth ≤ n) → PyData.depthAll xs ≤ n
  | [], _ => by simp [PyData.depthAll]
  | x :: xs, h => by
    rw [PyData.depthAll]
    exact Nat.max_le.mpr ⟨h x List.mem_cons_self, depAll fun y hy => h y (List.mem_cons_of_mem _ hy)⟩
structure Oks (n : Nat) (d : PyData) : Prop where
  can : d.canLay0 = true
  dep : d.depth ≤ n
theorem Oks.int (i : Int) : Oks 0 (.int i) := ⟨by simp [PyData.canLay0], by simp [PyData.depth]⟩
theorem Oks.mono {n m : Nat} {d : PyData} (h : Oks n d) (k : n ≤ m) : Oks m d := ⟨h.can, Nat.le_trans h.dep k⟩
theorem Oks.lst {n : Nat} {xs : List PyData} (h : ∀ x ∈ xs, Oks n x) : Oks (n + 1) (.list xs) := ⟨by rw [PyData.canLay0]; exact canAll fun x m => (h x m).can, by rw [PyData.depth]; exact Nat.succ_le_succ (depAll fun x m => (h x m).dep)⟩
theorem Oks.tup {n : Nat} {xs : List PyData} (h : ∀ x ∈ xs, Oks n x) : Oks (n + 1) (.tuple xs) := ⟨by rw [PyData.canLay0]; exact canAll fun x m => (h x m).can, by rw [PyData.depth]; exact Nat.succ_le_succ (depAll fun x m => (h x m).dep)⟩
theorem Oks.ints (ns : List Int) : Oks 1 (dInts ns) := .lst fun x m => by
  obtain ⟨n, _, rfl⟩ := List.mem_map.mp m
  exact .int n
theorem Oks.gs (gs : List (Int × Int)) : Oks 2 (dGs gs) := .lst fun x m => by
  obtain ⟨g, _, rfl⟩ := List.mem_map.mp m
  refine .tup fun y hy => ?_
  rcases List.mem_cons.mp hy with rfl | hy
  · exact .int _
  · rw [List.mem_singleton.mp hy]
    exact .int _
theorem Oks.rows (rs : List (List Int)) : Oks 2 (dRows rs) := .lst fun x m => by
  obtain ⟨r, _, rfl⟩ := List.mem_map.mp m
  exact .ints r
theorem Oks.shaped {n : Nat} {d : PyData} (h : Oks n d) (k : n ≤ 64 := by decide) : SeqAt.shaped d = true := by
  unfold SeqAt.shaped
  rw [h.can, decide_eq_true (Nat.le_trans h.dep k)]
  rfl
theorem Oks.eqv {n : Nat} {d : PyData} (h : Oks n d) : PyData.eqv d d = true := SeqAt.eqv_refl d h.can
theorem dp_ints {K : PySem.W.Frag} {H : Hp} {ns : List Int} : DpAll K H (ns.map V.int) (ns.map .int) := by
  induction ns with
  | nil => exact .nil
  | cons n ns ih => exact .cons (.int n) ih
theorem Dp.ints {K : PySem.W.Frag} {H : Hp} {a : Addr} {ns : List Int} (h : H a = some (.lst (ns.map V.int))) : Dp K H (.ref a) (dInts ns) := .lst (SqL.of h) dp_ints
theorem dpAll_of {K : PySem.W.Frag} {H : Hp} : ∀ {vs : List V} {ds : List PyData}, vs.length = ds.length → (∀ (i : Nat) (v : V) (d : PyData), vs[i]? = some v → ds[i]? = some d → Dp K H v d) → DpAll K H vs ds
  | [], [], _, _ => .nil
  | v :: vs, d :: ds, hl, h => .cons (h 0 v d rfl rfl) (dpAll_of (by simpa using hl) fun i v d e f => h (i + 1) v d (by simpa using e) (by simpa using f))
  | [], _ :: _, hl, _ => by simp at hl
  | _ :: _, [], hl, _ => by simp at hl
theorem GsAt.dp {K : PySem.W.Frag} {H : Hp} {B : Addr → Prop} {a : Addr} {ts : List Addr} {gs : List (Int × Int)} (h : GsAt H B a ts gs) : Dp K H (.ref a) (dGs gs) := by
  refine .lst h.seq (dpAll_of (by rw [List.length_map, List.length_map, h.len]) fun i v d e f => ?_)
  obtain ⟨t, g, rfl, eg, et⟩ := h.get e
  rw [List.getElem?_map, eg] at f
  obtain rfl := Option.some.inj f
  exact .tup (SqT.of et) (.cons (.int _) (.cons (.int _) .nil))
theorem RmsAt.dp {K : PySem.W.Frag} {H : Hp} {B : Addr → Prop} {a : Addr} {ts : List Addr} {rs : List (List Int)} (h : RmsAt H B a ts rs) : Dp K H (.ref a) (dRows rs) := by
  refine .lst h.seq (dpAll_of (by rw [List.length_map, List.length_map, h.len]) fun i v d e f => ?_)
  obtain ⟨t, r, rfl, _, er, et⟩ := h.get e
  rw [List.getElem?_map, er] at f
  obtain rfl := Option.some.inj f
  exact Dp.ints et
theorem eqv_nil (gs : List Int) : PyData.eqv (dInts gs) (dInts []) = gs.isEmpty := by
  cases gs with
  | nil => rfl
  | cons x r => rfl
theorem relTy (n : String) : RelV (.ty n) (.type n) := rfl
theorem FnOk.or {P : Program} {w : World} {K : PySem.W.Frag} {mg : Str → Option Value} {base : Heap} {CX : CXT} {k : Nat} {f : Addr} {fd : FuncData} {ps : List Str} {sp sp' : Sp} (F : FnOk P w K mg base CX k f fd ps sp) (F' : FnOk P w K mg base CX k f fd ps sp') :
    FnOk P w K mg base CX k f fd ps (fun vs H Q E => sp vs H Q E ∨ sp' vs H Q E) :=
  ⟨fun vs H Q E h => h.elim (F.len vs H Q E) (F'.len vs H Q E), fun A outer s H args us vs Q E hr e0 hb r h => h.elim (F.run A outer s H args us vs Q E hr e0 hb r) (F'.run A outer s H args us vs Q E hr e0 hb r)⟩
/-! ### built-ins by their names -/
structure Bi (mg : Str → Option Value) : Prop where
  len : mg "len" = none
  range : mg "range" = none
  enumerate : mg "enumerate" = none
  sorted : mg "sorted" = none
  sum : mg "sum" = none
  min : mg "min" = none
  max : mg "max" = none
  isinstance : mg "isinstance" = none
  zip : mg "zip" = none
  list_ : mg "list" = none
  tuple_ : mg "tuple" = none
  int_ : mg "int" = none
  bool_ : mg "bool" = none
  str_ : mg "str" = none
  abs : mg "abs" = none
  repr : mg "repr" = none
  dict_ : mg "dict" = none
  any : mg "any" = none
  all : mg "all" = none
  set_ : mg "set" = none
  reversed : mg "reversed" = none
  ValueError_ : mg "ValueError" = none
  divmod : mg "divmod" = none
end El
namespace El
open PySem PySem.Spec PyProof.Rows L2
/-- how many live in each -/
def lens (rs : List (List Int)) : List Int := rs.map fun r => (r.length : Int)
theorem lens_length (rs : List (List Int)) : (lens rs).length = rs.length := List.length_map _
theorem lens_at {rs : List (List Int)} {i : Nat} {r : List Int} (h : rs[i]? = some r) : (lens rs)[i]? = some (r.length : Int) := by
  unfold lens
  rw [List.getElem?_map, h]
  rfl
theorem cut_to (xs : List V) (j : Nat) : cutV xs none (some (j : Int)) = xs.take j := by
  unfold cutV
  rw [HT.sIx_none, HT.sIx_nat]
  show (List.drop 0 xs).take (min j xs.length - 0) = _
  rw [List.drop_zero, Nat.sub_zero, ← List.take_eq_take_min]
/-- the pair that stands at a value -/
def prOf (H : Hp) : V → Int × Int
  | .ref t => match H t with
    | some (.tup [.int i, .int j]) => (i, j)
    | _ => (0, 0)
  | _ => (0, 0)
theorem prOf_is {H : Hp} {t : Addr} {g : Int × Int} (h : H t = some (.tup [.int g.1, .int g.2])) : prOf H (.ref t) = g := by
  show (match H t with
    | some (.tup [.int i, .int j]) => (i, j)
    | _ => (0, 0)) = g
  rw [h]
theorem GsAt.prs {H : Hp} {B : Addr → Prop} {a : Addr} {ts : List Addr} {gs : List (Int × Int)} (h : GsAt H B a ts gs) : (ts.map V.ref).map (prOf H) = gs := by
  refine List.ext_getElem? fun i => ?_
  rw [List.getElem?_map]
  cases e : (ts.map V.ref)[i]? with
  | none =>
    have hl : (ts.map V.ref).length ≤ i := List.getElem?_eq_none_iff.mp e
    rw [List.length_map, h.len] at hl
    rw [List.getElem?_eq_none_iff.mpr hl]
    rfl
  | some x =>
    obtain ⟨t, g, rfl, eg, et⟩ := h.get e
    rw [eg]
    show some (prOf H (.ref t)) = some g
    rw [prOf_is et]
theorem GsAt.mem {H : Hp} {B : Addr → Prop} {a : Addr} {ts : List Addr} {gs : List (Int × Int)} (h : GsAt H B a ts gs) : ∀ x ∈ ts.map V.ref, ∃ t, x = V.ref t ∧ H t = some (.tup [.int (prOf H x).1, .int (prOf H x).2]) := fun x m => by
  obtain ⟨i, e⟩ := List.mem_iff_getElem?.mp m
  obtain ⟨t, g, rfl, eg, et⟩ := h.get e
  refine ⟨t, rfl, ?_⟩
  rw [prOf_is et]
  exact et
theorem sorted_prs {k : V → Int × Int} {ys xs : List V} {gs : List (Int × Int)} (f : Fit gs) (hx : xs.map k = gs) (hs : SrtO.Srtd (ltP k) ys) (hb : SrtO.Stb (ltP k) ys xs) : ys.reverse.map k = byAge gs := by
  refine byAge_of f ?_ ?_
  · rw [← hx]
    exact ((List.reverse_perm ys).trans hb.perm).map k
  · rw [List.map_reverse, List.pairwise_reverse, List.pairwise_map]
    refine hs.imp fun {a b} h => ?_
    have h' : SrtO.lexB (k b) (k a) = false := h
    rw [SrtO.lexB_no] at h'
    omega
theorem cut_1 (xs : List V) : cutV xs (some 1) none = xs.drop 1 := by
  unfold cutV
  rw [show HT.sIx xs.length 0 (some 1) = min 1 xs.length from HT.sIx_nat xs.length 0 1, HT.sIx_none]
  cases xs with
  | nil => rfl
  | cons x r =>
    rw [show min 1 (x :: r).length = 1 by
      rw [List.length_cons]
      omega]
    show (List.take ((x :: r).length - 1) r) = r
    rw [List.length_cons, Nat.add_sub_cancel]
    exact List.take_length
theorem lens_falls {gs : List (Int × Int)} (f : Fit gs) {i : Nat} {x y : Int} (h1 : (lens (settle gs))[i]? = some x) (h2 : ((lens (settle gs)).drop 1)[i]? = some y) : ¬ x < y := by
  rw [List.getElem?_drop] at h2
  unfold lens at h1 h2
  rw [List.getElem?_map] at h1 h2
  have hp := settleL_falls (byAge gs) f.byAge.pos
  cases e1 : (settle gs)[i]? with
  | none => rw [e1] at h1; cases h1
  | some r =>
    cases e2 : (settle gs)[1 + i]? with
    | none => rw [e2] at h2; cases h2
    | some s =>
      rw [e1] at h1
      rw [e2] at h2
      obtain rfl : (r.length : Int) = x := Option.some.inj h1
      obtain rfl : (s.length : Int) = y := Option.some.inj h2
      obtain ⟨l1, q1⟩ := List.getElem?_eq_some_iff.mp (show (settleL (byAge gs))[i]? = some r from e1)
      obtain ⟨l2, q2⟩ := List.getElem?_eq_some_iff.mp (show (settleL (byAge gs))[1 + i]? = some s from e2)
      have := List.pairwise_iff_getElem.mp hp i (1 + i) l1 l2 (by omega)
      rw [q1, q2] at this
      omega
theorem dget_pks {H : Hp} {d : Addr} {gs : List (Int × Int)} {g : Int × Int} (h : H d = some (.dK (pks gs))) (f : Fit gs) (m : g ∈ gs) : DGet H d (.int g.1) (some (.int g.2)) := by
  have q := DGet.k (k := Sum.inl g.1) h
  rw [pks_some f.nd m] at q
  exact q
theorem log_lt {m : Int} {k : Nat} (h0 : 0 < m) (h : m < 2 ^ k) : m.natAbs.log2 < k := by
  obtain ⟨j, rfl⟩ : ∃ j : Nat, m = j := ⟨m.toNat, by omega⟩
  have h' : j < 2 ^ k := by exact_mod_cast h
  rw [Int.natAbs_natCast]
  exact (Nat.log2_lt (by omega)).mpr h'
theorem GsAt.mix {H : Hp} {B B' : Addr → Prop} {a m : Addr} {ts : List Addr} {gs : List (Int × Int)} {ys : List V} (h : GsAt H B a ts gs) (e : H m = some (.lst ys)) (bm : B' m) (hb : ∀ b, B b → B' b) (p : ys.Perm (ts.map V.ref)) :
    ∃ ts' gs', GsAt H B' m ts' gs' ∧ gs'.Perm gs := by
  have hm : ∀ y ∈ ys, ∃ t, y = V.ref t ∧ t ∈ ts := fun y hy => by
    obtain ⟨t, ht, rfl⟩ := List.mem_map.mp (p.mem_iff.mp hy)
    exact ⟨t, rfl, ht⟩
  obtain ⟨us, rfl, hu⟩ : ∃ us : List Addr, ys = us.map V.ref ∧ ∀ u ∈ us, u ∈ ts := by
    clear p e
    induction ys with
    | nil => exact ⟨[], rfl, fun u hu => absurd hu (by simp)⟩
    | cons y ys ih =>
      obtain ⟨t, rfl, ht⟩ := hm y List.mem_cons_self
      obtain ⟨us, rfl, hu⟩ := ih fun z hz => hm z (List.mem_cons_of_mem _ hz)
      exact ⟨t :: us, rfl, fun u h => by
        rcases List.mem_cons.mp h with rfl | h
        · exact ht
        · exact hu u h⟩
  refine ⟨us, (us.map V.ref).map (prOf H), ⟨e, bm, by rw [List.length_map, List.length_map], fun i t g e1 e2 => ?_, fun t ht => hb t (h.b t (hu t ht))⟩, ?_⟩
  · rw [List.getElem?_map, List.getElem?_map, e1] at e2
    have e2' : prOf H (.ref t) = g := Option.some.inj e2
    obtain ⟨j, ej⟩ := List.mem_iff_getElem?.mp (hu t (List.mem_of_getElem? e1))
    obtain ⟨t', g', e3, eg, et⟩ := h.get (i := j) (x := .ref t) (by rw [List.getElem?_map, ej]; rfl)
    injection e3 with e3
    subst e3
    rw [prOf_is et] at e2'
    rw [← e2']
    exact et
  · have := p.map (prOf H)
    rw [h.prs] at this
    exact this
/-- put in anywhere -/
theorem GsAt.ins {H : Hp} {B : Addr → Prop} {a : Addr} {ts : List Addr} {gs : List (Int × Int)} {ys : List V} (h : GsAt H B a ts gs) (hn : a ∉ ts) {q : Addr} {g : Int × Int} (e : H q = some (.tup [.int g.1, .int g.2])) (bq : B q) (p : ys.Perm (ts.map V.ref ++ [.ref q])) :
    ∃ ts' gs', GsAt (upd H a (.lst ys)) B a ts' gs' ∧ gs'.Perm (gs ++ [g]) ∧ a ∉ ts' ∧ ys = ts'.map V.ref := by
  have nq : q ≠ a := fun z => by
    rw [z, h.top] at e
    cases e
  have hm : ∀ y ∈ ys, ∃ t, y = V.ref t ∧ t ∈ ts ++ [q] := fun y hy => by
    rcases List.mem_append.mp (p.mem_iff.mp hy) with m | m
    · obtain ⟨t, ht, rfl⟩ := List.mem_map.mp m
      exact ⟨t, rfl, List.mem_append_left _ ht⟩
    · exact ⟨q, List.mem_singleton.mp m, List.mem_append_right _ (List.mem_singleton.mpr rfl)⟩
  obtain ⟨us, rfl, hu⟩ : ∃ us : List Addr, ys = us.map V.ref ∧ ∀ u ∈ us, u ∈ ts ++ [q] := by
    clear p
    induction ys with
    | nil => exact ⟨[], rfl, fun u hu => absurd hu (by simp)⟩
    | cons y ys ih =>
      obtain ⟨t, rfl, ht⟩ := hm y List.mem_cons_self
      obtain ⟨us, rfl, hu⟩ := ih fun z hz => hm z (List.mem_cons_of_mem _ hz)
      exact ⟨t :: us, rfl, fun u h => by
        rcases List.mem_cons.mp h with rfl | h
        · exact ht
        · exact hu u h⟩
  have ha : ∀ u ∈ us, u ≠ a ∧ B u ∧ ∃ x : Int × Int, H u = some (.tup [.int x.1, .int x.2]) := fun u m => by
    rcases List.mem_append.mp (hu u m) with m | m
    · obtain ⟨j, ej⟩ := List.mem_iff_getElem?.mp m
      obtain ⟨t', g', e3, eg, et⟩ := h.get (i := j) (x := .ref u) (by rw [List.getElem?_map, ej]; rfl)
      injection e3 with e3
      subst e3
      exact ⟨fun z => hn (z ▸ m), h.b u m, g', et⟩
    · rw [List.mem_singleton.mp m]
      exact ⟨nq, bq, g, e⟩
  refine ⟨us, (us.map V.ref).map (prOf H), ⟨upd_same, h.ba, by rw [List.length_map, List.length_map], fun i t x e1 e2 => ?_, fun t m => (ha t m).2.1⟩, ?_, fun m => (ha a m).1 rfl, rfl⟩
  · rw [List.getElem?_map, List.getElem?_map, e1] at e2
    have e2' : prOf H (.ref t) = x := Option.some.inj e2
    obtain ⟨n1, _, y, ey⟩ := ha t (List.mem_of_getElem? e1)
    rw [prOf_is ey] at e2'
    subst e2'
    rw [upd_ne n1]
    exact ey
  · have := p.map (prOf H)
    rw [List.map_append, h.prs] at this
    rw [show [V.ref q].map (prOf H) = [g] by show [prOf H (.ref q)] = [g]; rw [prOf_is e]] at this
    exact this
theorem GsAt.cat {H : Hp} {B : Addr → Prop} {a l : Addr} {ts : List Addr} {gs : List (Int × Int)} (h : GsAt H B a ts gs) {q : Addr} {g : Int × Int} (e : H q = some (.tup [.int g.1, .int g.2])) (el : H l = some (.lst (ts.map V.ref ++ [.ref q]))) :
    GsAt H (fun _ => True) l (ts ++ [q]) (gs ++ [g]) := by
  refine ⟨by rw [List.map_append]; exact el, trivial, by rw [List.length_append, List.length_append, h.len]; rfl, fun i t x e1 e2 => ?_, fun _ _ => trivial⟩
  by_cases hi : i < ts.length
  · rw [List.getElem?_append_left hi] at e1
    rw [List.getElem?_append_left (by rw [← h.len]; exact hi)] at e2
    exact h.at' i t x e1 e2
  · have hi' : i = ts.length := by
      have := at_lt e1
      rw [List.length_append, List.length_singleton] at this
      omega
    subst hi'
    rw [List.getElem?_append_right (Nat.le_refl _), Nat.sub_self] at e1
    rw [h.len, List.getElem?_append_right (Nat.le_refl _), Nat.sub_self] at e2
    obtain rfl : q = t := Option.some.inj e1
    obtain rfl : g = x := Option.some.inj e2
    exact e
theorem inV_ints (x : Int) (ns : List Int) : inV (.int x) (ns.map V.int) = decide (x ∈ ns) := by
  unfold inV
  rw [List.any_map]
  induction ns with
  | nil => rfl
  | cons n ns ih =>
    rw [List.any_cons, ih]
    have e : ((fun y => eqV y (V.int x)) ∘ V.int) n = decide (x = n) := by
      show eqV (.int n) (.int x) = decide (x = n)
      have e2 : eqV (.int n) (.int x) = decide (n = x) := by
        unfold eqV
        first | rfl | simp
      rw [e2]
      by_cases h : n = x
      · subst h; simp
      · rw [decide_eq_false h, decide_eq_false (fun z => h z.symm)]
    rw [e]
    by_cases h : x = n
    · subst h
      simp
    · rw [decide_eq_false h, Bool.false_or]
      by_cases h2 : x ∈ ns
      · rw [decide_eq_true h2, decide_eq_true (List.mem_cons_of_mem _ h2)]
      · rw [decide_eq_false h2, decide_eq_false (fun z => (List.mem_cons.mp z).elim h h2)]
theorem flat_ints (ns : List Int) : (ns.map V.int).all flatV = true := by
  rw [List.all_map, List.all_eq_true]
  intro x _
  rfl
theorem eqvAll_ints : ∀ a b : List Int, PyData.eqvAll (a.map .int) (b.map .int) = decide (a = b)
  | [], [] => rfl
  | [], y :: b => by
    rw [decide_eq_false (by simp)]
    rfl
  | x :: a, [] => by
    rw [decide_eq_false (by simp)]
    rfl
  | x :: a, y :: b => by
    rw [List.map_cons, List.map_cons, PyData.eqvAll, eqvAll_ints a b]
    show ((x == y) && decide (a = b)) = _
    by_cases h : x = y
    · subst h
      by_cases h2 : a = b
      · subst h2
        simp
      · rw [decide_eq_false h2, decide_eq_false (fun z => h2 (List.cons.inj z).2)]
        simp
    · have : (x == y) = false := by simpa using h
      rw [this, decide_eq_false (fun z => h (List.cons.inj z).1)]
      rfl
theorem eqv_ints (a b : List Int) : PyData.eqv (dInts a) (dInts b) = decide (a = b) := by
  unfold dInts
  rw [PyData.eqv]
  exact eqvAll_ints a b
theorem cut_at (xs : List V) (k : Nat) : cutV xs (some (k : Int)) (some ((k : Int) + 1)) = (xs.drop k).take 1 := by
  unfold cutV
  rw [HT.sIx_nat, show (k : Int) + 1 = ((k + 1 : Nat) : Int) by omega, HT.sIx_nat]
  by_cases h : k < xs.length
  · rw [Nat.min_eq_left (by omega), Nat.min_eq_left (by omega), Nat.add_sub_cancel_left]
  · have h1 : min k xs.length = xs.length := by omega
    have h2 : min (k + 1) xs.length = xs.length := by omega
    rw [h1, h2, Nat.sub_self, List.take_zero, List.drop_of_length_le (show xs.length ≤ k by omega)]
    rfl
theorem drop_take1 (L : List Int) (k : Nat) : (L.drop k).take 1 = L[k]?.toList := by
  by_cases h : k < L.length
  · rw [List.getElem?_eq_getElem h, List.drop_eq_getElem_cons h]
    rfl
  · rw [List.getElem?_eq_none (by omega), List.drop_of_length_le (by omega)]
    rfl
end El
namespace El
open PySem PySem.Spec PyProof.Rows L2
section
variable {X : Cx}
/-- the walk over a list -/
theorem gathers_list {pins : List (Addr × Obj)} {σ : L2.St} {H : Hp} {s : Shared} {a : Addr} {xs : List V} (I : Inv X pins σ H s) (h : SqL X.K H a xs) : xs.length ≤ sizeLine ∧ Gathers X s (.ref a) xs := by
  have ⟨us, r, ⟨o, n, at_a, is_list, _, data⟩, few⟩ := I.list h
  refine ⟨few, fun R go => wpAny_collect_seq a (.inl rfl) at_a is_list data (fun h' grown => ?_) ?_⟩
  · rw [List.toList_toArray]
    exact go us h' s.toks r grown
  · rw [List.size_toArray]
    exact r.length ▸ few
/-- a value that is an object's name, seen as ours -/
def asOurs : Value → V
  | .ref a => .ref a
  | _ => .non
/-- sorted(xs, reverse=b) of a list of pairs of ints -/
def rSortedPK (K : PySem.W.Frag) (b : Bool) : List V → List V → Hp → VK → Prop := fun vs zs H Q => ∃ (a : Addr) (xs : List V) (k : V → Int × Int), vs = [V.ref a] ∧ zs = [.bl b] ∧ SqL K H a xs ∧ (∀ x ∈ xs, ∃ t, x = V.ref t ∧ H t = some (.tup [.int (k x).1, .int (k x).2])) ∧
  ∀ ys p, SrtO.Srtd (ltP k) ys → ys.Perm xs → H p = none → Q (.ref p) (upd H p (.lst (if b = true then ys.reverse else ys)))
theorem cr_sortedPK {b : Bool} (_ : X.calm = true) : CallRK X (.builtin "sorted") [Str.ofString "reverse"] (rSortedPK X.K b) := by
  rintro pins s σ H _ _ us ws Q I one by_kw ⟨a, xs, k, rfl, rfl, here, pairs, q⟩
  obtain ⟨v, w, rfl, rfl, rfl, rfl⟩ : ∃ v w, us = [v] ∧ ws = [w] ∧ v = .ref a ∧ w = .bool b := by
    cases one with | cons e1 t1 => cases t1; cases by_kw with | cons e2 t2 => cases t2; exact ⟨_, _, rfl, rfl, e1, e2⟩
  have ⟨few, walk⟩ := gathers_list I here
  have known : ∀ {x : V} {u : Value}, x ∈ xs → RelV x u → asOurs u = x := fun {x u} m e => by
    have ⟨t, ex, _⟩ := pairs x m
    subst ex
    exact congrArg asOurs e
  refine sorted_gathered I few walk (SrtO.swo_lex fun u => k (asOurs u)) (fun us s' l two r J free => ?_) fun P l hP perm up free => ?_
  · refine SrtO.pairs_sortableO (k := fun u => k (asOurs u)) (Nat.lt_of_lt_of_le Nat.two_pos two) (fun u m => ?_) fun o at_l => ?_
    · obtain ⟨P, hP, rfl, rfl⟩ := partners_of r
      have ⟨⟨x, u⟩, mp, eu⟩ := List.mem_map.mp m
      subst eu
      have mx := List.mem_map_of_mem (f := Prod.fst) mp
      have ⟨t, ex, ht⟩ := pairs x mx
      have apart : t ≠ l := fun e => by rw [e, free] at ht; cases ht
      have ⟨_, vs, rv, o, at_t, is_tup, n, data⟩ := J.hok t _ ((upd_ne apart).trans ht)
      rw [known mx (hP _ mp)]
      cases rv with | cons e1 rv => cases rv with | cons e2 rv => cases rv; exact e1.elim fun t1 e1 => e2.elim fun t2 e2 => ⟨t, o, t1, t2, n, by have := hP _ mp; rw [show (x, u).1 = V.ref t from ex] at this; exact this, at_t, is_tup, by rw [data, e1, e2]⟩
    · have ⟨_, vs, e, _, there⟩ := J.hok l _ upd_same
      rw [there] at at_l
      cases at_l
      have differ : Value.type "list" ≠ Value.type "tuple" := by decide
      exact differ
  · have sorts : SrtO.Srtd (ltP k) (P.map Prod.fst) := by
      rw [SrtO.Srtd, List.pairwise_map] at up ⊢
      refine up.imp_of_mem fun {p p'} m m' h => ?_
      have on := fun {p : V × Value} (m : p ∈ P) => known (perm.mem_iff.mp (List.mem_map_of_mem (f := Prod.fst) m)) (hP p m)
      rw [on m, on m'] at h
      exact h
    exact q _ l sorts perm free
/-- sorted by age and patience, turned round: from the eldest on -/
theorem sorted_down {k : V → Int × Int} {ys xs : List V} {gs : List (Int × Int)} (f : Fit gs) (hx : xs.map k = gs) (hs : SrtO.Srtd (ltP k) ys) (hb : ys.Perm xs) : ys.reverse.map k = byAge gs := by
  refine byAge_of f ?_ ?_
  · rw [← hx]
    exact ((List.reverse_perm ys).trans hb).map k
  · rw [List.map_reverse, List.pairwise_reverse, List.pairwise_map]
    refine hs.imp fun {a b} h => ?_
    have h' : SrtO.lexB (k b) (k a) = false := h
    rw [SrtO.lexB_no] at h'
    omega
end
end El
namespace El
open PySem PySem.Spec PyProof.Rows L2
section
variable {X : Cx}
/-- len of a set of ints -/
theorem call_lenSI : CallR X (.builtin "len") (fun xs H Q => ∃ (a : Addr) (S : Int → Bool) (n : Nat), xs = [V.ref a] ∧ H a = some (SetO X.w a S n) ∧ n ≤ 100000 ∧ Q (.int n) H) := by
  intro pins s σ H xs us Q I r h
  obtain ⟨a, S, n, rfl, ha, hn, q⟩ := h
  rw [Vals.ref1 r]
  obtain ⟨o, es, ep, t, ho, hex, hd, _, _, _, hf, he⟩ := (setO_get I ha).setOf (P := X.prog)
  refine call_len_set ho hex hd hf (by rw [he]; exact Int.lt_of_le_of_lt (show (n : Int) ≤ 100000 by omega) (by decide)) ⟨.int n, H, I.tok _, ⟨_, by rw [he]⟩, q⟩
end
theorem piListK {X : Cx} {tg l : Expr} {tl : TE} (K : PySem.W.Frag) (hl : PE X l tl) (e : X.K = K := by rfl) : PI X tg l (iList K tl) := by
  subst e
  exact pi_list hl
/-- the outer walk of a comprehension with two fors, and the inner one -/
theorem out_it {J : It} {n : Nat} {G : Hp → Prop} {Y : Nat → Hp → V → Hp → Prop} (w : Walk J n G Y) {Qd : Hp → Prop} {H0 : Hp} {bd : (Hp → Prop) → V → Hp → Prop} (Pv : Nat → Hp → Prop) (h0 : Pv 0 H0) (hG : ∀ i H, i ≤ n → Pv i H → G H)
    (hs : ∀ i x H H', i < n → Pv i H → Y i H x H' → bd (Pv (i + 1)) x H') (hd : ∀ H, Pv n H → Qd H) :
    ∃ W : Nat → Nat → Hp → Prop, (∃ m, W 0 m H0) ∧ ∀ i m H, W i m H → (J.stop i H ∧ Qd H) ∨ (J.go i H ∧ ∃ Nx : Hp → Prop, (∀ H', Nx H' → ∃ m', m' < m ∧ W (i + 1) m' H') ∧ ∀ x H', J.yld i H x H' → bd Nx x H') := by
  refine ⟨fun i m H => m = n - i ∧ i ≤ n ∧ Pv i H, ⟨n, by simp, Nat.zero_le _, h0⟩, ?_⟩
  rintro i m H ⟨rfl, hi, p⟩
  have q := hG i H hi p
  by_cases hlt : i < n
  · exact .inr ⟨w.goes i H hlt q, Pv (i + 1), fun H' p' => ⟨n - (i + 1), by omega, rfl, hlt, p'⟩, fun x H' y => hs i x H H' hlt p (w.yields i H x H' hlt q y)⟩
  · have e : i = n := by omega
    subst e
    exact .inl ⟨w.stops H q, hd H p⟩
theorem cut_from (xs : List V) (j : Nat) : cutV xs (some (j : Int)) none = xs.drop j := by
  unfold cutV
  rw [HT.sIx_none, HT.sIx_nat]
  show (List.drop (min j xs.length) xs).take (xs.length - min j xs.length) = _
  by_cases h : j ≤ xs.length
  · rw [Nat.min_eq_left h, List.take_of_length_le (by rw [List.length_drop]; omega)]
  · rw [Nat.min_eq_right (by omega), List.drop_of_length_le (Nat.le_refl _), List.drop_of_length_le (show xs.length ≤ j by omega), List.take_nil]
/-- a list of lists of ints, read alone -/
structure RdAt (H : Hp) (o : Addr) (ts : List Addr) (rs : List (List Int)) : Prop where
  top : H o = some (.lst (ts.map V.ref))
  len : ts.length = rs.length
  at' : ∀ (i : Nat) (t : Addr) (r : List Int), ts[i]? = some t → rs[i]? = some r → H t = some (.lst (r.map V.int))
theorem RdAt.same {H H' : Hp} {a : Addr} {ts : List Addr} {rs : List (List Int)} (h : RdAt H a ts rs) (k : Same H H') : RdAt H' a ts rs :=
  ⟨k _ _ h.top, h.len, fun i t g e f => k _ _ (h.at' i t g e f)⟩
theorem RdAt.seq {K : PySem.W.Frag} {H : Hp} {a : Addr} {ts : List Addr} {rs : List (List Int)} (h : RdAt H a ts rs) : SqL K H a (ts.map V.ref) := SqL.of h.top
theorem RmsAt.rd {H : Hp} {B : Addr → Prop} {a : Addr} {ts : List Addr} {rs : List (List Int)} (h : RmsAt H B a ts rs) : RdAt H a ts rs := ⟨h.top, h.len, h.at'⟩
theorem RdAt.get {H : Hp} {a : Addr} {ts : List Addr} {rs : List (List Int)} (h : RdAt H a ts rs) {i : Nat} {x : V} (e : (ts.map V.ref)[i]? = some x) : ∃ t r, x = .ref t ∧ ts[i]? = some t ∧ rs[i]? = some r ∧ H t = some (.lst (r.map V.int)) := by
  obtain ⟨t, e1, rfl⟩ := refs_at e
  have hi := at_lt e1
  rw [h.len] at hi
  obtain ⟨g, e2⟩ := at_some hi
  exact ⟨t, g, rfl, e1, e2, h.at' i t g e1 e2⟩
theorem pks_get {gs : List (Int × Int)} (nd : (gs.map (·.1)).Nodup) {a : Int} (m : a ∈ gs.map (·.1)) : valV (pks gs) (Sum.inl a) = some (.int (pof gs a)) := by
  obtain ⟨g, hg, rfl⟩ := List.mem_map.mp m
  rw [pks_some nd hg, pof_is nd hg]
theorem dget_pof {H : Hp} {d : Addr} {gs : List (Int × Int)} (h : H d = some (.dK (pks gs))) (nd : (gs.map (·.1)).Nodup) {a : Int} (m : a ∈ gs.map (·.1)) : DGet H d (.int a) (some (.int (pof gs a))) := by
  have z := DGet.k (k := Sum.inl a) h
  rw [pks_get nd m] at z
  exact z
theorem take_snoc_flat {rs : List (List Int)} {i : Nat} {r : List Int} (e : rs[i]? = some r) : (rs.take (i + 1)).flatten = (rs.take i).flatten ++ r := by
  rw [take_snoc e, List.flatten_append, List.flatten_cons, List.flatten_nil, List.append_nil]
theorem flat_split {rs : List (List Int)} {i j : Nat} {r : List Int} {a : Int} (nd : rs.flatten.Nodup) (e : rs[i]? = some r) (e2 : r[j]? = some a) : a ∉ (rs.take i).flatten ++ r.take j := by
  have h1 : rs.flatten = (rs.take i).flatten ++ (r ++ (rs.drop (i + 1)).flatten) := by
    have hi := at_lt e
    have h2 : rs = rs.take i ++ r :: rs.drop (i + 1) := by
      have := List.getElem_cons_drop (as := rs) (i := i) hi
      rw [List.getElem?_eq_getElem hi] at e
      rw [Option.some.inj e] at this
      rw [this, List.take_append_drop]
    rw [congrArg List.flatten h2, List.flatten_append, List.flatten_cons]
  have h3 : r = r.take j ++ a :: r.drop (j + 1) := by
    have hj := at_lt e2
    have := List.getElem_cons_drop (as := r) (i := j) hj
    rw [List.getElem?_eq_getElem hj] at e2
    rw [Option.some.inj e2] at this
    rw [this, List.take_append_drop]
  rw [h1] at nd
  generalize (rs.take i).flatten = x at nd ⊢
  generalize (rs.drop (i + 1)).flatten = y at nd
  rw [h3] at nd
  obtain ⟨_, n2, n3⟩ := List.nodup_append.mp nd
  intro m
  rcases List.mem_append.mp m with m | m
  · exact n3 a m a (List.mem_append_left _ (List.mem_append_right _ List.mem_cons_self)) rfl
  · obtain ⟨n4, _, _⟩ := List.nodup_append.mp n2
    obtain ⟨_, _, n7⟩ := List.nodup_append.mp n4
    exact n7 a m a List.mem_cons_self rfl
theorem flat_mem {rs : List (List Int)} {i j : Nat} {r : List Int} {a : Int} (e : rs[i]? = some r) (e2 : r[j]? = some a) : a ∈ rs.flatten :=
  List.mem_flatten.mpr ⟨r, List.mem_of_getElem? e, List.mem_of_getElem? e2⟩
end El
namespace El
/-! ### in peace, by counting -/
theorem upIn_iff {pf : Int → Int} : ∀ {l : List Int} {k : Nat}, upIn pf l k = none ↔ ∀ (i : Nat) (a : Int), l[i]? = some a → ((i + k : Nat) : Int) ≤ pf a
  | [], _ => ⟨fun _ i a e => by simp at e, fun _ => rfl⟩
  | x :: l, k => by
    constructor
    · intro h
      unfold upIn at h
      by_cases q : pf x < (k : Int)
      · rw [if_pos q] at h
        cases h
      · rw [if_neg q] at h
        intro i a e
        cases i with
        | zero =>
          obtain rfl : x = a := Option.some.inj e
          omega
        | succ i =>
          have := (upIn_iff.mp h) i a (by simpa using e)
          omega
    · exact upIn_none
theorem upsetOf_iff {gs : List (Int × Int)} : ∀ {rs : List (List Int)} {k : Nat}, upsetOf gs rs k = none ↔ ∀ r ∈ rs, eldUp gs r = none
  | [], _ => ⟨fun _ r m => absurd m List.not_mem_nil, fun _ => rfl⟩
  | r :: rs, k => by
    constructor
    · intro h
      unfold upsetOf at h
      cases e : eldUp gs r with
      | some a => rw [e] at h; cases h
      | none =>
        rw [e] at h
        intro s m
        rcases List.mem_cons.mp m with rfl | m
        · exact e
        · exact (upsetOf_iff.mp h) s m
    · exact upsetOf_none
theorem above_ix : ∀ {l : List Int} {i : Nat} {a : Int}, l.Pairwise (· > ·) → l[i]? = some a → (l.filter fun b => decide (a < b)).length = i
  | [], i, a, _, e => by simp at e
  | x :: l, 0, a, h, e => by
    obtain rfl : x = a := Option.some.inj e
    obtain ⟨h1, _⟩ := List.pairwise_cons.mp h
    rw [List.filter_cons_of_neg (by simp), List.filter_eq_nil_iff.mpr fun b hb => by
      have := h1 b hb
      simp only [decide_eq_true_eq]
      omega]
    rfl
  | x :: l, i + 1, a, h, e => by
    obtain ⟨h1, h2⟩ := List.pairwise_cons.mp h
    have e' : l[i]? = some a := by simpa using e
    have := h1 a (List.mem_of_getElem? e')
    rw [List.filter_cons_of_pos (by simp only [decide_eq_true_eq]; omega), List.length_cons, above_ix h2 e']
def above (r : List Int) (a : Int) : List Int := r.filter fun b => decide (a < b)
theorem down_strict {r : List Int} (nd : r.Nodup) : (down r).Pairwise (· > ·) := by
  have h1 := down_sorted r
  have h2 : (down r).Nodup := ((down_perm r).nodup_iff).mpr nd
  have h3 := h1.and h2
  exact h3.imp fun {a b} h => by
    have := h.1
    have := h.2
    omega
theorem eldUp_iff {gs : List (Int × Int)} {r : List Int} (nd : r.Nodup) : eldUp gs r = none ↔ ∀ a ∈ r, ((above r a).length : Int) ≤ pof gs a := by
  have hl : ∀ a, (above r a).length = ((down r).filter fun b => decide (a < b)).length := fun a => (((down_perm r).filter _).length_eq).symm
  unfold eldUp
  rw [upIn_iff]
  constructor
  · intro h a m
    obtain ⟨i, e⟩ := List.mem_iff_getElem?.mp ((down_perm r).mem_iff.mpr m)
    have := h i a e
    rw [hl, above_ix (down_strict nd) e]
    omega
  · intro h i a e
    have := h a ((down_perm r).mem_iff.mp (List.mem_of_getElem? e))
    rw [hl, above_ix (down_strict nd) e] at this
    omega
theorem flat_nd {rs : List (List Int)} (nd : rs.flatten.Nodup) {r : List Int} (m : r ∈ rs) : r.Nodup := (List.pairwise_flatten.mp nd).1 r m
def full (rs : List (List Int)) : List (List Int) := rs.filter fun r => !r.isEmpty
def lensD (rs : List (List Int)) : List Int := (full rs).map fun r => (r.length : Int)
/-- in peace and as good as can be -/
def bestB (gs : List (Int × Int)) (rs : List (List Int)) : Bool := decide (upsetOf gs rs 0 = none) && decide (down (lensD rs) = (settle gs).map fun r => (r.length : Int))
end El
namespace El
open PySem PySem.Spec PyProof.Rows L2
section
variable {X : Cx}
theorem ptTruthK {a : Expr} {ta : TE} (K : PySem.W.Frag) (ha : PE X a ta) (he : ∀ whole, isTrue a X.env whole = (do let v ← whole; standAt a.pos; holding [v] (truthy v))) (e : X.K = K := by rfl) :
    PT X a (tTru K ta) := by
  subst e
  exact pt_truth ha he
/-! ### xs[::s], s 1 or -1 -/
def tStepL (K : PySem.W.Frag) (te ts : TE) : TE := fun σ H Q => te σ H fun x H1 => ts σ H1 fun y H2 => ∃ c, y = .int c ∧ ∃ a xs, x = .ref a ∧ (c = 1 ∨ c = -1) ∧ SqL K H2 a xs ∧ ∀ p, H2 p = none → Q (.ref p) (upd H2 p (.lst (if c = 1 then xs else xs.reverse)))
/-- what such a cut picks -/
theorem pick_way (us : List Value) {c : Int} (h : c = 1 ∨ c = -1) : slicePick us.toArray none none (some c) = (if c = 1 then us else us.reverse).toArray := by
  rcases h with rfl | rfl
  · show slicePick us.toArray none none none = _
    rw [slicePick_cut, HT.sIx_none, HT.sIx_none, List.drop_zero, Nat.sub_zero, List.take_length]
    rfl
  · exact PySem.W.krv_pick us.toArray
/-- a cut lies there that names its step alone -/
def StepAt (s : Shared) (i : Value) (c : Int) : Prop := ∃ p u, i = .ref p ∧ s.heap.IsSliceOf p .none .none (.int c u)
theorem step_made {st : Expr} {ts : TE} {p : Pos} {pins : List (Addr × Obj)} {σ : L2.St} {H : Hp} {s : Shared} {R : Value → Shared → Prop} {D : Int → Hp → Prop} (hs : PE X st ts) (I : Inv X pins σ H s)
    (h : ts σ H fun y H' => ∃ c, y = .int c ∧ D c H') (go : ∀ c H' i s', Inv X pins σ H' s' → StepAt s' i c → D c H' → R i s') : wpAny (model X.prog X.w) X.A (eval (.Slice none none (some st) p) X.env) R X.xe s := by
  refine wpAny_Slice (wpAny_pure (wpAny_pure (thn (hs.run pins s σ H _ I h) ?_)))
  rintro _ s' ⟨_, H', J, e, c, rfl, d⟩
  obtain ⟨u, rfl⟩ : ∃ u, _ = Value.int c u := e
  exact go c H' _ _ (J.kept (t' := s'.toks) fun _ _ => Heap.get?_push_of_some _) ⟨_, u, rfl, .new ..⟩ d
theorem list_cut {pins : List (Addr × Obj)} {σ : L2.St} {H : Hp} {s : Shared} {Q : VK} {a : Addr} {xs : List V} {i : Value} {c : Int} (I : Inv X pins σ H s) (here : SqL X.K H a xs) (cut : StepAt s i c) (h : c = 1 ∨ c = -1)
    (q : ∀ p, H p = none → Q (.ref p) (upd H p (.lst (if c = 1 then xs else xs.reverse)))) : wpAny (model X.prog X.w) X.A (getItem (.ref a) i) (EP X pins σ Q) X.xe s := by
  have ⟨us, r, at_a, few⟩ := I.list here
  have ⟨_, _, e, at_i⟩ := cut
  subst e
  have fits : us.toArray.size ≤ sizeLine := Nat.le_trans (Nat.le_of_eq (us.size_toArray.trans r.length.symm)) few
  have turned : Vals (if c = 1 then xs else xs.reverse) (if c = 1 then us else us.reverse) := by
    split
    · exact r
    · exact r.reverse
  have same : (if c = 1 then xs else xs.reverse).length = xs.length := by
    split
    · rfl
    · exact xs.length_reverse
  refine wpAny_getItem_list_slice at_a.isList at_i .none .none (.int c _) (fun z => by rcases h with rfl | rfl <;> cases z) ?_ fits
  rw [pick_way us h]
  have J := I.laid (a := s.heap.objs.size) (o := .lst (if c = 1 then xs else xs.reverse)) (t' := s.toks) (fun _ _ => Heap.get?_push_of_some _) (Nat.le_refl _) ⟨same ▸ few, _, 0, turned, Heap.get?_push_size _ rfl⟩
  exact ⟨.ref _, _, J, rfl, q _ (I.hok.fresh (Nat.le_refl _))⟩
theorem pe_stepL {e st : Expr} {te ts : TE} {p3 pos : Pos} (he : PE X e te) (hs : PE X st ts) : PE X (.Subscript e (.Slice none none (some st) p3) pos) (tStepL X.K te ts) where
  run pins s σ H Q I h := by
    refine Subscript_ (thn (he.run pins s σ H _ I h) ?_)
    rintro v s1 ⟨x, H1, J1, r, more⟩
    refine step_made hs J1 more ?_
    rintro c H2 i s2 J2 cut ⟨a, xs, rfl, way, here, q⟩
    cases r
    have ⟨_, _, at_a, _⟩ := J2.list here
    exact tail_any (ops := [.ref a, i]) at_a.isList.typeIs PySem.slot_list_getitem.lookup (list_cut J2 here cut way q) (by have ⟨_, _, e, _⟩ := cut; subst e; with_unfolding_all rfl)
end
theorem mergeK_pks {gs : List (Int × Int)} (nd : (gs.map (·.1)).Nodup) : mergeK [] (pks gs) = pks gs := by
  suffices h : ∀ (n : Nat), n ≤ gs.length → mergeK [] (pks (gs.take n)) = pks (gs.take n) by
    have := h gs.length (Nat.le_refl _)
    rw [take_full] at this
    exact this
  intro n
  induction n with
  | zero =>
    intro _
    rw [List.take_zero]
    rfl
  | succ n ih =>
    intro hn
    obtain ⟨g, eg⟩ := at_some hn
    have ht : (gs.take n).map (·.1) = (gs.map (·.1)).take n := List.map_take
    have no : g.1 ∉ (gs.take n).map (·.1) := fun m => by
      rw [ht] at m
      have e : (gs.map (·.1))[n]? = some g.1 := by rw [List.getElem?_map, eg]; rfl
      obtain ⟨i, hi⟩ := List.mem_iff_getElem?.mp m
      rw [List.getElem?_take] at hi
      split at hi
      · have := nd_ix nd hi e
        omega
      · cases hi
    rw [take_snoc eg]
    unfold mergeK at ih ⊢
    rw [pks_snoc, List.foldl_append, ih (by omega)]
    show putK (pks (gs.take n)) (Sum.inl g.1) (V.int g.2) = _
    rw [putK_snoc no, pks_snoc]
theorem GsAt.paired {K : PySem.W.Frag} {H : Hp} {B : Addr → Prop} {a : Addr} {ts : List Addr} {gs : List (Int × Int)} (h : GsAt H B a ts gs) : Paired (fun p kv => SqT K H p [kV kv.1, kv.2]) ts (pks gs) := by
  have hl := h.len
  have ha := h.at'
  clear h
  induction ts generalizing gs with
  | nil =>
    cases gs with
    | nil => exact .nil
    | cons g gs => simp at hl
  | cons t ts ih =>
    cases gs with
    | nil => simp at hl
    | cons g gs =>
      refine .cons (SqT.of (ha 0 t g rfl rfl)) (ih (gs := gs) (by simpa using hl) fun i t' g' e1 e2 => ha (i + 1) t' g' (by simpa using e1) (by simpa using e2))
theorem RdAt.of {H : Hp} {a : Addr} {ts : List Addr} {rs : List (List Int)} (h : RdAt H a ts rs) {i : Nat} {r : List Int} (e : rs[i]? = some r) : ∃ t, ts[i]? = some t ∧ H t = some (.lst (r.map V.int)) := by
  have hi := at_lt e
  rw [← h.len] at hi
  obtain ⟨t, e2⟩ := at_some hi
  exact ⟨t, e2, h.at' i t r e2 e⟩
theorem flat_in {rs : List (List Int)} {r : List Int} (m : r ∈ rs) : r.length ≤ rs.flatten.length := room_le_flat rs r m
theorem full_snoc {rs : List (List Int)} {i : Nat} {r : List Int} (e : rs[i]? = some r) : lensD (rs.take (i + 1)) = if r = [] then lensD (rs.take i) else lensD (rs.take i) ++ [(r.length : Int)] := by
  unfold lensD full
  rw [take_snoc e, List.filter_append]
  cases r with
  | nil => rw [List.filter_cons_of_neg (by simp), List.filter_nil, List.append_nil, if_pos rfl]
  | cons x r => rw [List.filter_cons_of_pos (by simp), List.filter_nil, List.map_append, if_neg (by simp)]; rfl
theorem lensD_len (rs : List (List Int)) : (lensD rs).length ≤ rs.length := by
  unfold lensD full
  rw [List.length_map]
  exact List.length_filter_le _ _
end El
namespace El
open PySem PySem.Spec PyProof.Rows L2
/-- [f(x) for x in L], ints to ints -/
theorem lc_ints {K : PySem.W.Frag} {a D : Addr} {L : List Int} {i : Nat} {te : TE} {vs : List Nat} {σ : L2.St} {H1 : Hp} {Qd : Hp → Prop} (f : Int → Int) (hL : H1 a = some (.lst (L.map V.int))) (hD : H1 D = none) (hl : L.length ≤ 1000)
    (he : ∀ (k : Nat) (z : Int) (H' : Hp), L[k]? = some z → Same H1 H' → ∀ Q : VK, Q (.int (f z)) H' → te ((wipe σ vs).set i (some (.int z))) H' Q) (hw : ∀ z : Int, wipe ((wipe σ vs).set i (some (.int z))) vs = wipe σ vs)
    (hd : ∀ H2, Same H1 H2 → H2 D = some (.lst ((L.map f).map V.int)) → Qd H2) :
    ∃ W : Nat → Nat → Hp → Prop, (∃ m, W 0 m (upd H1 D (.lst []))) ∧ ∀ k m H, W k m H →
      ((Itl K a).stop k H ∧ Qd H) ∨ ((Itl K a).go k H ∧ ∃ Nx : Hp → Prop, (∀ H', Nx H' → ∃ m', m' < m ∧ W (k + 1) m' H') ∧ ∀ x H', (Itl K a).yld k H x H' → gName i x (wipe σ vs) H' fun σ2 H2 => wipe σ2 vs = wipe σ vs ∧ tYes σ2 H2 fun b H3 =>
        if b = true then te σ2 H3 fun y H4 => ∃ acc, H4 D = some (.lst acc) ∧ acc.length < sizeLine ∧ Nx (upd H4 D (.lst (acc ++ [y]))) else Nx H3) := by
  refine lc_it (walk_list (xs := L.map V.int)) (fun k H2 => Same H1 H2 ∧ H2 D = some (.lst (((L.take k).map f).map V.int))) ⟨same_new hD, upd_same⟩ (fun k H2 _ hW => ?_) (fun k x H2 H3 hk hW hY => ?_) (fun H2 hW => ?_)
  · exact SqL.of (hW.1 _ _ hL)
  · obtain ⟨sm, e⟩ := hW
    obtain ⟨rfl, hx⟩ := hY
    obtain ⟨z, ez, rfl⟩ := ints_at hx
    refine ⟨hw z, he k z H3 ez sm _ ⟨_, e, ils (by rw [List.length_map, List.length_map, List.length_take]; omega), Same.mut sm hD, ?_⟩⟩
    rw [upd_same, take_snoc ez, List.map_append, List.map_append]
    rfl
  · obtain ⟨sm, e⟩ := hW
    rw [List.length_map, take_full] at e
    exact hd H2 sm e
/-- [f(room) for room in rs], lists of ints to ints -/
theorem lc_rows {K : PySem.W.Frag} {a D : Addr} {us : List Addr} {rs : List (List Int)} {i : Nat} {te : TE} {vs : List Nat} {σ : L2.St} {H1 : Hp} {Qd : Hp → Prop} (f : List Int → Int) (hR : RdAt H1 a us rs) (hD : H1 D = none) (hl : rs.length ≤ 1000)
    (he : ∀ (t : Addr) (r : List Int) (H' : Hp), r ∈ rs → H' t = some (.lst (r.map V.int)) → ∀ Q : VK, Q (.int (f r)) H' → te ((wipe σ vs).set i (some (.ref t))) H' Q) (hw : ∀ t : Addr, wipe ((wipe σ vs).set i (some (.ref t))) vs = wipe σ vs)
    (hd : ∀ H2, Same H1 H2 → H2 D = some (.lst ((rs.map f).map V.int)) → Qd H2) :
    ∃ W : Nat → Nat → Hp → Prop, (∃ m, W 0 m (upd H1 D (.lst []))) ∧ ∀ k m H, W k m H →
      ((Itl K a).stop k H ∧ Qd H) ∨ ((Itl K a).go k H ∧ ∃ Nx : Hp → Prop, (∀ H', Nx H' → ∃ m', m' < m ∧ W (k + 1) m' H') ∧ ∀ x H', (Itl K a).yld k H x H' → gName i x (wipe σ vs) H' fun σ2 H2 => wipe σ2 vs = wipe σ vs ∧ tYes σ2 H2 fun b H3 =>
        if b = true then te σ2 H3 fun y H4 => ∃ acc, H4 D = some (.lst acc) ∧ acc.length < sizeLine ∧ Nx (upd H4 D (.lst (acc ++ [y]))) else Nx H3) := by
  refine lc_it (walk_list (xs := us.map V.ref)) (fun k H2 => Same H1 H2 ∧ H2 D = some (.lst (((rs.take k).map f).map V.int))) ⟨same_new hD, upd_same⟩ (fun k H2 _ hW => ?_) (fun k x H2 H3 hk hW hY => ?_) (fun H2 hW => ?_)
  · exact (hR.same hW.1).seq
  · obtain ⟨sm, e⟩ := hW
    obtain ⟨rfl, hx⟩ := hY
    obtain ⟨t, r, rfl, _, er, et⟩ := (hR.same sm).get hx
    refine ⟨hw t, he t r H3 (List.mem_of_getElem? er) et _ ⟨_, e, ils (by rw [List.length_map, List.length_map, List.length_take]; omega), Same.mut sm hD, ?_⟩⟩
    rw [upd_same, take_snoc er, List.map_append, List.map_append]
    rfl
  · obtain ⟨sm, e⟩ := hW
    rw [List.length_map, hR.len, take_full] at e
    exact hd H2 sm e
end El
namespace El
open PySem PySem.Spec PyProof.Rows L2
/-- [f(a, b) for a, b in gs], pairs of ints to ints -/
theorem lc_prs {K : PySem.W.Frag} {B : Addr → Prop} {a D : Addr} {ts : List Addr} {gs : List (Int × Int)} {i j : Nat} {te : TE} {vs : List Nat} {σ : L2.St} {H1 : Hp} {Qd : Hp → Prop} (f : Int × Int → Int) (hG : GsAt H1 B a ts gs) (hD : H1 D = none) (hl : gs.length ≤ 1000)
    (he : ∀ (z : Int × Int) (H' : Hp), z ∈ gs → Same H1 H' → ∀ Q : VK, Q (.int (f z)) H' → te (((wipe σ vs).set i (some (.int z.1))).set j (some (.int z.2))) H' Q) (hw : ∀ z : Int × Int, wipe (((wipe σ vs).set i (some (.int z.1))).set j (some (.int z.2))) vs = wipe σ vs)
    (hd : ∀ H2, Same H1 H2 → H2 D = some (.lst ((gs.map f).map V.int)) → Qd H2) :
    ∃ W : Nat → Nat → Hp → Prop, (∃ m, W 0 m (upd H1 D (.lst []))) ∧ ∀ k m H, W k m H →
      ((Itl K a).stop k H ∧ Qd H) ∨ ((Itl K a).go k H ∧ ∃ Nx : Hp → Prop, (∀ H', Nx H' → ∃ m', m' < m ∧ W (k + 1) m' H') ∧ ∀ x H', (Itl K a).yld k H x H' → gTup K 2 (gCons (gName i) (gCons (gName j) gNil)) x (wipe σ vs) H' fun σ2 H2 => wipe σ2 vs = wipe σ vs ∧ tYes σ2 H2 fun b H3 =>
        if b = true then te σ2 H3 fun y H4 => ∃ acc, H4 D = some (.lst acc) ∧ acc.length < sizeLine ∧ Nx (upd H4 D (.lst (acc ++ [y]))) else Nx H3) := by
  refine lc_it (walk_list (xs := ts.map V.ref)) (fun k H2 => Same H1 H2 ∧ H2 D = some (.lst (((gs.take k).map f).map V.int))) ⟨same_new hD, upd_same⟩ (fun k H2 _ hW => ?_) (fun k x H2 H3 hk hW hY => ?_) (fun H2 hW => ?_)
  · exact (hG.same hW.1).seq
  · obtain ⟨sm, e⟩ := hW
    obtain ⟨rfl, hx⟩ := hY
    obtain ⟨t, z, rfl, ez, et⟩ := (hG.same sm).get hx
    refine ⟨t, _, rfl, SqT.of et, rfl, .int z.1, _, rfl, .int z.2, _, rfl, rfl, ?_⟩
    refine ⟨hw z, he z H3 (List.mem_of_getElem? ez) sm _ ⟨_, e, ils (by rw [List.length_map, List.length_map, List.length_take]; omega), Same.mut sm hD, ?_⟩⟩
    rw [upd_same, take_snoc ez, List.map_append, List.map_append]
    rfl
  · obtain ⟨sm, e⟩ := hW
    rw [List.length_map, hG.len, take_full] at e
    exact hd H2 sm e
theorem GsAt.top' {H : Hp} {B : Addr → Prop} {a : Addr} {ts : List Addr} {gs : List (Int × Int)} (h : GsAt H B a ts gs) {b : Addr} (e : H b = some (.lst (ts.map V.ref))) : GsAt H (fun _ => True) b ts gs := ⟨e, trivial, h.len, h.at', fun _ _ => trivial⟩
/-- a pair of a list of pairs, by its place -/
theorem GsAt.at_ {H : Hp} {B : Addr → Prop} {a : Addr} {ts : List Addr} {gs : List (Int × Int)} (h : GsAt H B a ts gs) {i : Nat} {g : Int × Int} (e : gs[i]? = some g) : ∃ t, (ts.map V.ref)[i]? = some (.ref t) ∧ H t = some (.tup [.int g.1, .int g.2]) := by
  have hl := at_lt e
  rw [← h.len] at hl
  obtain ⟨t, e2⟩ := at_some hl
  exact ⟨t, by rw [List.getElem?_map, e2]; rfl, h.at' i t g e2 e⟩
theorem pick2 {P : Int → Prop} {a b r : Int} (h0 : 0 ≤ r) (h1 : r < 2) (pa : P a) (pb : P b) : ∃ v : Int, atI [V.int a, .int b] r = some (.int v) ∧ P v := by
  obtain ⟨v, hv, mv⟩ := at_pick (xs := [V.int a, .int b]) h0 h1
  rcases List.mem_cons.mp mv with rfl | mv
  · exact ⟨_, hv, pa⟩
  · obtain rfl := List.mem_singleton.mp mv
    exact ⟨_, hv, pb⟩
theorem pick3 {P : Int → Prop} {a b c r : Int} (h0 : 0 ≤ r) (h1 : r < 3) (pa : P a) (pb : P b) (pc : P c) : ∃ v : Int, atI [V.int a, .int b, .int c] r = some (.int v) ∧ P v := by
  obtain ⟨v, hv, mv⟩ := at_pick (xs := [V.int a, .int b, .int c]) h0 h1
  rcases List.mem_cons.mp mv with rfl | mv
  · exact ⟨_, hv, pa⟩
  rcases List.mem_cons.mp mv with rfl | mv
  · exact ⟨_, hv, pb⟩
  · obtain rfl := List.mem_singleton.mp mv
    exact ⟨_, hv, pc⟩
theorem pick4 {P : Int → Prop} {a b c d r : Int} (h0 : 0 ≤ r) (h1 : r < 4) (pa : P a) (pb : P b) (pc : P c) (pd : P d) : ∃ v : Int, atI [V.int a, .int b, .int c, .int d] r = some (.int v) ∧ P v := by
  obtain ⟨v, hv, mv⟩ := at_pick (xs := [V.int a, .int b, .int c, .int d]) h0 h1
  rcases List.mem_cons.mp mv with rfl | mv
  · exact ⟨_, hv, pa⟩
  rcases List.mem_cons.mp mv with rfl | mv
  · exact ⟨_, hv, pb⟩
  rcases List.mem_cons.mp mv with rfl | mv
  · exact ⟨_, hv, pc⟩
  · obtain rfl := List.mem_singleton.mp mv
    exact ⟨_, hv, pd⟩
theorem pickL {P : Int → Prop} {L : List Int} {r : Int} (h0 : 0 ≤ r) (h1 : r < L.length) (p : ∀ x ∈ L, P x) : ∃ v : Int, atI (L.map V.int) r = some (.int v) ∧ P v := by
  obtain ⟨v, hv, mv⟩ := at_pick (xs := L.map V.int) h0 (by rw [List.length_map]; exact h1)
  obtain ⟨x, mx, rfl⟩ := List.mem_map.mp mv
  exact ⟨x, hv, p x mx⟩
/-- pairs that stand at these, whatever list tells them -/
structure Prs (H : Hp) (ts : List Addr) (gs : List (Int × Int)) : Prop where
  len : ts.length = gs.length
  at' : ∀ (i : Nat) (t : Addr) (g : Int × Int), ts[i]? = some t → gs[i]? = some g → H t = some (.tup [.int g.1, .int g.2])
theorem GsAt.pr {H : Hp} {B : Addr → Prop} {a : Addr} {ts : List Addr} {gs : List (Int × Int)} (h : GsAt H B a ts gs) : Prs H ts gs := ⟨h.len, h.at'⟩
theorem Prs.gs {H : Hp} {a : Addr} {ts : List Addr} {gs : List (Int × Int)} (h : Prs H ts gs) (e : H a = some (.lst (ts.map V.ref))) : GsAt H (fun _ => True) a ts gs := ⟨e, trivial, h.len, h.at', fun _ _ => trivial⟩
theorem Prs.same {H H' : Hp} {ts : List Addr} {gs : List (Int × Int)} (h : Prs H ts gs) (k : Same H H') : Prs H' ts gs := ⟨h.len, fun i t g e f => k _ _ (h.at' i t g e f)⟩
theorem Prs.nil {H : Hp} : Prs H [] [] := ⟨rfl, fun i t g e _ => by simp at e⟩
theorem Prs.cons {H : Hp} {t : Addr} {g : Int × Int} {ts : List Addr} {gs : List (Int × Int)} (e : H t = some (.tup [.int g.1, .int g.2])) (h : Prs H ts gs) : Prs H (t :: ts) (g :: gs) := by
  refine ⟨by rw [List.length_cons, List.length_cons, h.len], fun i u x e1 e2 => ?_⟩
  cases i with
  | zero =>
    obtain rfl : t = u := Option.some.inj e1
    obtain rfl : g = x := Option.some.inj e2
    exact e
  | succ i => exact h.at' i u x (by simpa using e1) (by simpa using e2)
theorem Prs.cat {H : Hp} {ts us : List Addr} {gs hs : List (Int × Int)} (h : Prs H ts gs) (k : Prs H us hs) : Prs H (ts ++ us) (gs ++ hs) := by
  refine ⟨by rw [List.length_append, List.length_append, h.len, k.len], fun i t r e1 e2 => ?_⟩
  by_cases hi : i < ts.length
  · rw [List.getElem?_append_left hi] at e1
    rw [List.getElem?_append_left (by rw [← h.len]; exact hi)] at e2
    exact h.at' i t r e1 e2
  · rw [List.getElem?_append_right (by omega)] at e1
    rw [List.getElem?_append_right (by rw [← h.len]; omega), ← h.len] at e2
    exact k.at' _ t r e1 e2
theorem Prs.take {H : Hp} {ts : List Addr} {gs : List (Int × Int)} (h : Prs H ts gs) (n : Nat) : Prs H (ts.take n) (gs.take n) := by
  refine ⟨by rw [List.length_take, List.length_take, h.len], fun i t r e1 e2 => ?_⟩
  rw [List.getElem?_take] at e1 e2
  split at e1
  · rename_i hi
    rw [if_pos hi] at e2
    exact h.at' i t r e1 e2
  · cases e1
theorem Prs.drop {H : Hp} {ts : List Addr} {gs : List (Int × Int)} (h : Prs H ts gs) (n : Nat) : Prs H (ts.drop n) (gs.drop n) := by
  refine ⟨by rw [List.length_drop, List.length_drop, h.len], fun i t r e1 e2 => ?_⟩
  rw [List.getElem?_drop] at e1 e2
  exact h.at' _ t r e1 e2
theorem cutFrom (xs : List V) (j : Nat) : cutV xs (some (j : Int)) none = xs.drop j := by
  unfold cutV
  rw [HT.sIx_none, HT.sIx_nat]
  show (List.drop (min j xs.length) xs).take (xs.length - min j xs.length) = _
  by_cases h : j ≤ xs.length
  · rw [Nat.min_eq_left h, List.take_of_length_le (by rw [List.length_drop]; omega)]
  · rw [Nat.min_eq_right (by omega), List.drop_of_length_le (Nat.le_refl _), List.drop_of_length_le (show xs.length ≤ j by omega), List.take_nil]
theorem iteX {c : Bool} {A B : Prop} (hc : c = false) (h : B) : if c = true then A else B := by
  rw [hc]
  exact iteF h
theorem nd_self (x : V) : (!decide (x = x)) = false := by rw [decide_eq_true rfl]; rfl
theorem log2_lt {x : Int} {k : Nat} (h0 : 0 ≤ x) (h1 : x < 2 ^ k) (hk : 0 < k) : x.natAbs.log2 < k := by
  by_cases h4 : x.natAbs = 0
  · rw [h4]; exact Nat.lt_of_le_of_lt (by decide) hk
  · refine (Nat.log2_lt h4).mpr ?_
    have : ((x.natAbs : Nat) : Int) < ((2 ^ k : Nat) : Int) := by
      rw [show ((x.natAbs : Nat) : Int) = x by omega]
      exact_mod_cast h1
    exact_mod_cast this
theorem part_at {gs : List (Int × Int)} {i : Nat} {g : Int × Int} (e : gs[i]? = some g) : gs = gs.take i ++ [g] ++ gs.drop (i + 1) := by
  have hi := at_lt e
  have h2 := List.getElem_cons_drop (as := gs) (i := i) hi
  rw [List.getElem?_eq_getElem hi] at e
  rw [Option.some.inj e] at h2
  rw [List.append_assoc]
  show gs = gs.take i ++ (g :: gs.drop (i + 1))
  rw [h2, List.take_append_drop]
theorem rg0 {i : Nat} {x : V} (h : x = V.int (0 + (i : Int))) : x = V.int (i : Int) := by
  rw [h, Int.zero_add]
end El
namespace El
open PySem PySem.Spec PyProof.Rows L2
theorem RmsAt.addN {H : Hp} {B : Addr → Prop} {o u : Addr} {ts : List Addr} {rs : List (List Int)} {r : List Int} (h : RmsAt H B o ts rs) (e : H u = some (.lst (r.map V.int))) (bu : B u) (hu : u ∉ ts) (uo : u ≠ o) :
    RmsAt (upd H o (.lst (ts.map V.ref ++ [.ref u]))) B o (ts ++ [u]) (rs ++ [r]) := by
  have no : ∀ t ∈ ts, t ≠ o := fun t m z => h.no (z ▸ m)
  refine ⟨by rw [upd_same, List.map_append]; rfl, h.bo, ?_, ?_, ?_, fun i t r' e1 e2 => ?_, fun t m => ?_⟩
  · rw [List.nodup_append]
    refine ⟨h.nd, by simp, fun a m b mb => ?_⟩
    rw [List.mem_singleton.mp mb]
    exact fun z => hu (z ▸ m)
  · intro m
    rcases List.mem_append.mp m with m | m
    · exact h.no m
    · exact uo (List.mem_singleton.mp m).symm
  · rw [List.length_append, List.length_append, h.len]
    rfl
  · by_cases hi : i < ts.length
    · rw [List.getElem?_append_left hi] at e1
      rw [List.getElem?_append_left (by rw [← h.len]; exact hi)] at e2
      rw [upd_ne (no t (List.mem_of_getElem? e1))]
      exact h.at' i t r' e1 e2
    · have hi2 := at_lt e1
      rw [List.length_append, List.length_singleton] at hi2
      have : i = ts.length := by omega
      subst this
      rw [List.getElem?_append_right (Nat.le_refl _), Nat.sub_self] at e1
      rw [h.len, List.getElem?_append_right (Nat.le_refl _), Nat.sub_self] at e2
      obtain rfl := Option.some.inj e1
      obtain rfl := Option.some.inj e2
      rw [upd_ne uo]
      exact e
  · rcases List.mem_append.mp m with m | m
    · exact h.b t m
    · rw [List.mem_singleton.mp m]
      exact bu
theorem GsAt.sortedN {H H' : Hp} {B : Addr → Prop} {a p : Addr} {ts : List Addr} {gs : List (Int × Int)} {zs : List V} (h : GsAt H B a ts gs) (k : Same H H') (pm : zs.Perm (ts.map V.ref)) (hz : zs.map (prOf H) = byAge gs) (e : H' p = some (.lst zs)) : ∃ us, GsAt H' (fun _ => True) p us (byAge gs) ∧ zs = us.map V.ref ∧ ∀ u ∈ us, u ∈ ts := by
  have : ∃ us : List Addr, zs = us.map V.ref ∧ ∀ u ∈ us, u ∈ ts := by
    have hm : ∀ z ∈ zs, ∃ t, z = V.ref t ∧ t ∈ ts := fun z m => by
      obtain ⟨t, mt, rfl⟩ := List.mem_map.mp (pm.mem_iff.mp m)
      exact ⟨t, rfl, mt⟩
    clear pm hz e
    induction zs with
    | nil => exact ⟨[], rfl, fun u m => by simp at m⟩
    | cons z zs ih =>
      obtain ⟨t, rfl, mt⟩ := hm z List.mem_cons_self
      obtain ⟨us, rfl, hu⟩ := ih fun y m => hm y (List.mem_cons_of_mem _ m)
      exact ⟨t :: us, rfl, fun u m => by
        rcases List.mem_cons.mp m with rfl | m
        · exact mt
        · exact hu u m⟩
  obtain ⟨us, rfl, hu⟩ := this
  refine ⟨us, ⟨e, trivial, ?_, fun i t g e1 e2 => ?_, fun _ _ => trivial⟩, rfl, hu⟩
  · have := congrArg List.length hz
    rw [List.length_map, List.length_map] at this
    exact this
  · have m := h.mem (.ref t) (pm.mem_iff.mp (List.mem_map.mpr ⟨t, List.mem_of_getElem? e1, rfl⟩))
    obtain ⟨t', et, e3⟩ := m
    injection et with et
    subst et
    have : prOf H (.ref t) = g := by
      have h2 := congrArg (fun l => l[i]?) hz
      rw [List.getElem?_map, List.getElem?_map, e1, e2] at h2
      exact Option.some.inj h2
    rw [this] at e3
    exact k _ _ e3
theorem iteTa {c : Bool} {A B : Prop} (hc : c = true) (h : A) : if c = true then A else B := by rw [if_pos hc]; exact h
end El
namespace El
open PySem PySem.Spec PyProof.Rows L2
/-! ### the program's own errors: InnError over ValueError, and those over InnError, each with what -/
/-- a def that may raise, as callers see it -/
structure DfX (P : Program) (w : World) (K : PySem.W.Frag) (mg : Str → Option Value) (base : Heap) (k : Nat) (x : Str) (ps : List Str) (st : Stmt) (sp : Sp) : Prop where
  ex : ∃ (f : Addr) (fd : FuncData), Fun K x x st f fd ∧ mg x = some (.ref f) ∧ FnOk P w K mg base (L2.CX P w) k f fd ps sp ∧ Binds K fd ps []
theorem At.dfx {P : Program} {w : World} {K : PySem.W.Frag} {mg : Str → Option Value} {base : Heap} {k : Nat} {x : Str} {ps : List Str} {st : Stmt} {sp : Sp} (A : At K mg x ps st)
    (h : ∀ f fd, Fun K x x st f fd → FnOk P w K mg base (L2.CX P w) k f fd ps sp) : DfX P w K mg base k x ps st sp := by
  obtain ⟨f, fd, F, m, b⟩ := A.ex
  exact ⟨f, fd, F, m, h f fd F, b⟩
section
variable {X : Cx} {k : Nat} {x : Str} {ps : List Str} {st : Stmt} {sp : Sp} {p pos : Pos} {e : Expr} {es : List Expr} {kws : List Keyword} {t tk : TA} {W : WX}
/-- f(..) of such a def, what it raises as W tells -/
theorem pe_dfS (D : DfX X.prog X.w X.K X.mg X.base k x ps st sp) (tk : Takes X W) (hr : Room k X.A) (hg : Gl X x) (ha : PA X (e :: es) t) (hdb : (x == ("__debug__" : Str)) = false := by decide)
    (he : starEach (e :: es) X.env = (false, eval e X.env) :: starEach es X.env := by rfl) (hpl : (backTo pos (starEach es X.env)).any (·.1) = false := by rfl) : PE X (.Call (.Name x p) (e :: es) [] pos) (tCallS sp (WE W) t) := by
  obtain ⟨f, fd, F, m, G, b⟩ := D.ex
  exact pe_callS G hr hg m F.kp b (fun σ => passAt tk σ) ha hdb he hpl
/-- f(..) of such a def where nothing is raised -/
theorem pe_dfN (D : DfX X.prog X.w X.K X.mg X.base k x ps st sp) (hr : Room k X.A) (hg : Gl X x) (ha : PA X (e :: es) t) (hdb : (x == ("__debug__" : Str)) = false := by decide)
    (he : starEach (e :: es) X.env = (false, eval e X.env) :: starEach es X.env := by rfl) (hpl : (backTo pos (starEach es X.env)).any (·.1) = false := by rfl) : PE X (.Call (.Name x p) (e :: es) [] pos) (tCall sp [] E0 t) := by
  obtain ⟨f, fd, F, m, G, b⟩ := D.ex
  refine pe_call G hr hg m F.kp b .nil (fun pins σ H s v s' I c => ?_) ha hdb he hpl
  obtain ⟨_, _, _, _, _, _, _, _, _, _, _, _, z⟩ := c
  exact z.elim
def tCallWS (n : Nat) (sp : Sp) (W : WX) (g : List V → List V) (tk : TA) : TE := fun σ H Q => tk σ H fun zs H2 => zs.length = n ∧ sp (g zs) H2 Q (fun cls d H => W cls d σ H)
end
/-! ### InnError.__init__(self, ..) -/
structure InnC (K : PySem.W.Frag) (mg : Str → Option Value) (C0 : Addr) : Prop where
  g : mg "InnError" = some (.ref C0)
  rd : PySem.W.readsIn K C0 (.type "type") = true
  ga : PySem.W.specialIn K (.ref C0) "__getattribute__" = some (some (.builtin "type.__getattribute__"))
  i : PySem.W.findCls K (.ref C0) (.type "type") "__init__" = some (.val (.builtin "ValueError.__init__"))
section
variable {X : Cx} {C0 : Addr} {e : Expr} {es : List Expr} {ta : TA} {p1 p2 pos : Pos}
theorem pe_ownI {pl : Sem Bool} (T : InnC X.K X.mg C0) (ha : PA X (e :: es) ta) (hg : Gl X "InnError" := by rfl)
    (hev : eval (.Call (.Attribute (.Name "InnError" p1) "__init__" p2) (e :: es) [] pos) X.env = (do
      let v0 ← eval (.Name "InnError" p1) X.env
      standAt p2.atName
      let (fn, one) ← holding [v0] (getMethod v0 "__init__" pl)
      callWith pos fn one (backTo pos (starEach (e :: es) X.env)) (backToKw pos (keywordEach [] X.env))) := by rfl)
    (hse : starEach (e :: es) X.env = (false, eval e X.env) :: starEach es X.env := by rfl) (hpl : (backTo pos (starEach es X.env)).any (·.1) = false := by rfl) :
    PE X (.Call (.Attribute (.Name "InnError" p1) "__init__" p2) (e :: es) [] pos) (tVeI X.K ta) := by
  refine ⟨fun pins s σ H Q I h => PySem.W.methodCall_KW (ld_glob I hg T.g ?_) hev⟩
  refine PySem.W.method_cls I.kIn T.ga (PySem.W.cls_value I.kIn T.rd T.i rfl ?_)
  show wpAny _ _ (callWith pos (Value.builtin "ValueError.__init__") [] (backTo pos (starEach (e :: es) X.env)) []) _ _ { s with toks := s.toks + 1 }
  refine PyProof.Rows.callWith_method1 (thn (ha.run pos pins _ σ H _ (I.tok _) h) fun us s1 hh => ?_) hse hpl
  obtain ⟨vs, H1, I1, r1, a, C, ws, rfl, hl, T1, ea, q⟩ := hh
  cases r1 with
  | @cons _ u0 _ ur ra rw' =>
    cases ra
    have hz : ur.length ≤ sizeLine := by
      rw [← Paired.length rw']
      exact ile (Nat.le_trans hl (by decide))
    exact oinit_ok T1 I1 ea hz fun s' J => ⟨.non, H1, J, rfl, q⟩
end
/-! ### what the top says of such a class, x its name -/
structure Own (K : PySem.W.Frag) (mg : Str → Option Value) (x : Str) (C fI : Addr) : Prop where
  g : mg x = some (.ref C)
  o : OexC K C
  xf : XfC K C
  no : PySem.W.findIn K (.ref C) "what" = some none
  iC : PySem.W.findIn K (.ref C) "__init__" = some (some (.ref fI))
  tI : PySem.W.typeIn K (.ref fI) = some (.type "function")
  cl : (PySem.W.clsIn K C).isSome = true
  ac : PySem.W.findIn K (.ref C) "__class__" = some (some (.builtin "object.__class__"))
  mo : PySem.W.mroIn K C (.type "object") = some true
/-- what isinstance leans on -/
structure IsX (K : PySem.W.Frag) : Prop where
  hn : PySem.W.specialIn K (.builtin "object.__class__") "__get__" = some (some (.builtin "getset_descriptor.__get__"))
  ht : PySem.W.takesIn K (.builtin "object.__class__") = some true
/-- isinstance(e, c), e the exception that the suite holds, with its dict at d -/
def rIsD (K : PySem.W.Frag) (D a : Addr) : List V → Hp → VK → Prop := fun xs H Q => ∃ (c : V) (cv : Value) (b : Bool), xs = [.ref a, c] ∧ (∀ u, RelV c u → u = cv) ∧ PySem.W.kitOne K (.ref D) cv = some b ∧ Q (.bl b) H
/-- isinstance(e, (c1, ..)) -/
def rIsT (K : PySem.W.Frag) (D a : Addr) : List V → Hp → VK → Prop := fun xs H Q => ∃ (t : Addr) (cs : List V) (cvs : List Value) (b : Bool), xs = [.ref a, .ref t] ∧ SqT K H t cs ∧ (∀ us, Vals cs us → us = cvs) ∧ PySem.W.kitAny K (.ref D) cvs = some b ∧ Q (.bl b) H
section
variable {X : Cx} {a D : Addr} {d : Option Addr} {oe : Obj} {pn : List (Addr × Obj)} {fI : Addr} {x : Str}
theorem own_inst {pins : List (Addr × Obj)} {σ : L2.St} {H : Hp} {s : Shared} {dd : Addr} {fs : List (Str × V)} (hz : Zc (.ref D) (some dd) oe) (hf : ∃ vs, oe.data = .fields vs) (I : Inv (X.suite a ((a, oe) :: pn)) pins σ H s) (ed : H dd = some (.xd fs)) :
    ∃ od, PySem.W.InstAt s.heap a oe D (some od) := by
  obtain ⟨ha, _⟩ := I.pin (a, oe) (List.mem_append_left _ List.mem_cons_self)
  obtain ⟨vs, hd⟩ := hf
  obtain ⟨mA, hns, _⟩ := (show ObjOk X.prog X.w H s.heap dd (.xd fs) from I.hok dd _ ed)
  obtain ⟨od, ho, _⟩ := lookIn_ns hns
  exact ⟨od, ha, hz.1, by unfold PySem.W.notCls; rw [hd] <;> rfl, by rw [hz.2]; exact ho⟩
theorem own_kit {K : PySem.W.Frag} {mg : Str → Option Value} {od : Option Obj} (T : Own K mg x D fI) (J : IsX K) : PySem.W.KitX K (.ref a) (.ref D) (fun h => PySem.W.InstAt h a oe D od) :=
  PySem.W.kitx_exc T.cl T.xf.ga T.xf.gg T.xf.exC T.ac J.hn J.ht T.mo
theorem call_isD {dd : Addr} (T : Own X.K X.mg x D fI) (J : IsX X.K) (hz : Zc (.ref D) (some dd) oe) (hf : ∃ vs, oe.data = .fields vs) :
    CallR (X.suite a ((a, oe) :: pn)) (.builtin "isinstance") (fun xs H Q => (∃ fs, H dd = some (.xd fs)) ∧ (rIsD X.K D a xs H Q ∨ rIsT X.K D a xs H Q)) := by
  intro pins s σ H xs us Q I r h
  obtain ⟨⟨fs, ed⟩, h⟩ := h
  obtain ⟨od, hI⟩ := own_inst hz hf I ed
  rcases h with ⟨c, cv, b, rfl, hcv, e, q⟩ | ⟨t, cs, cvs, b, rfl, hs, hcs, e, q⟩
  · cases r with
    | cons rx rr =>
      cases rr with
      | cons rt rr =>
        cases rr
        cases rx
        obtain rfl := hcv _ rt
        exact PySem.W.kia_one (own_kit T J) I.kIn hI e (fun z => nomatch z) fun tk => ⟨.bl b, H, I.kept (t' := tk) fun _ _ z => z, rfl, q⟩
  · cases r with
    | cons rx rr =>
      cases rr with
      | cons rt rr =>
        cases rr
        cases rx
        cases rt
        obtain ⟨its, rv, ⟨o, ho, hc, n, hd⟩, _⟩ := I.tuple hs
        obtain rfl := hcs _ rv
        obtain ⟨oc, od', oda, osl⟩ := o
        dsimp only at hc hd
        subst hc hd
        exact PySem.W.kia_tup (own_kit T J) I.kIn hI ho e (fun z => nomatch z) fun tk => ⟨.bl b, H, I.kept (t' := tk) fun _ _ z => z, rfl, q⟩
end
/-- the heap behind C(v): all as it was, the dict alone beside -/
theorem mk_heap {H : Hp} {a d : Addr} {x z : HO} {y u : HO} (ha : H a = none) (hd : d ≠ a) : upd (del (upd (upd (upd H a x) d y) a z) a) d u = upd H d u := by
  funext b
  by_cases h1 : b = d
  · rw [h1, upd_same, upd_same]
  · rw [upd_ne h1, upd_ne h1]
    by_cases h2 : b = a
    · rw [h2, del_same, ha]
    · rw [del_ne h2, upd_ne h2, upd_ne h1, upd_ne h2]
/-- an except clause's class -/
theorem te_of {K : PySem.W.Frag} {C0 C : Addr} (h1 : PySem.W.subIn K (.ref C0) (.type "BaseException") = some true) (hd : PySem.W.hasDictIn K C0 = true) (ht : PySem.W.typeIn K (.ref C0) = some (.type "type")) (h4 : PySem.W.subIn K (.ref C) (.ref C0) = some true) : PySem.W.exmOne K (.ref C) (.ref C0) = some true := PySem.W.exm_ref h1 hd ht h4
/-! ### in a suite: the exception's class known at the reading alone -/
def rIsAny (K : PySem.W.Frag) (mg : Str → Option Value) (a : Addr) (cls : Value) (d : Option Addr) : List V → Hp → VK → Prop := fun xs H Q => ∃ (x : Str) (D fI dd : Addr), cls = .ref D ∧ d = some dd ∧ Own K mg x D fI ∧ IsX K ∧ (∃ fs, H dd = some (.xd fs)) ∧ (rIsD K D a xs H Q ∨ rIsT K D a xs H Q)
def tXfAny (K : PySem.W.Frag) (a : Addr) (cls : Value) (d : Option Addr) (f : Str) (te : TE) : TE := fun σ H Q => ∃ C, XfC K C ∧ PySem.W.findIn K (.ref C) f = some none ∧ tXf a cls d C f te σ H Q
section
variable {X : Cx} {a : Addr} {cls : Value} {d : Option Addr} {oe : Obj} {pn : List (Addr × Obj)}
theorem isAnyK (K : PySem.W.Frag) (mg : Str → Option Value) (hz : Zc cls d oe) (hf : ∃ vs, oe.data = .fields vs) (e : X.K = K := by rfl) (e2 : X.mg = mg := by rfl) : CallR (X.suite a ((a, oe) :: pn)) (.builtin "isinstance") (rIsAny K mg a cls d) := by
  subst e
  subst e2
  intro pins s σ H xs us Q I r h
  obtain ⟨x, D, fI, dd, rfl, rfl, T, J, h1, h2⟩ := h
  exact call_isD T J hz hf pins s σ H xs us Q I r ⟨h1, h2⟩
theorem pe_xfA {e : Expr} {te : TE} {pos : Pos} {n : Str} (K : PySem.W.Frag) (hz : Zc cls d oe) (hf : ∃ vs, oe.data = .fields vs) (he : PE (X.suite a ((a, oe) :: pn)) e te) (eK : X.K = K := by rfl) (hb : attributeBase e n X.env (eval e X.env) = eval e X.env := by rfl) :
    PE (X.suite a ((a, oe) :: pn)) (.Attribute e n pos) (tXfAny K a cls d n te) := by
  subst eK
  refine ⟨fun pins s σ H Q I h => ?_⟩
  obtain ⟨C, T, hno, h⟩ := h
  exact (pe_xf (C := C) T hno hz hf he hb).run pins s σ H Q I h
end
/-- xs.count(y), xs of flat things -/
def rCountF (K : PySem.W.Frag) : V → List V → Hp → VK → Prop := fun x xs H Q => ∃ (a : Addr) (ys : List V) (y : V), x = .ref a ∧ xs = [y] ∧ SqL K H a ys ∧ flatV y = true ∧ ys.all flatV = true ∧ Q (.int ((ys.countP fun z => eqV z y : Nat) : Int)) H
theorem countU {y : V} : ∀ {ys : List V} {its : List Value}, Vals ys its → ys.all flatV = true → its.countP (eqU y) = ys.countP fun z => eqV z y
  | _, _, .nil, _ => rfl
  | _, _, .cons (a := z) (b := u) (l₁ := zs) r t, h => by
    have h' : (flatV z && zs.all flatV) = true := h
    obtain ⟨h1, h2⟩ := Bool.and_eq_true_iff.mp h'
    rw [List.countP_cons, List.countP_cons, countU t h2, eqU_of r h1]
section
variable {X : Cx}
theorem mtCountK (K : PySem.W.Frag) (e : X.K = K := by rfl) : MtR X "list.count" (rCountF K) := by
  subst e
  intro pins s σ H x xs v us Q I rx rxs h
  obtain ⟨a, ys, y, rfl, rfl, hs, fy, fys, q⟩ := h
  cases rx
  obtain ⟨u, rfl, ru⟩ := rxs.one
  obtain ⟨its, rv, ⟨⟨cl, dd, da, sl⟩, n, ho, hc, hdn, hd⟩, hlen⟩ := I.list hs
  dsimp only at hc hd
  subst hc hd
  refine call_meets PySem.F.slot_list_count ⟨_, ho, rfl⟩ PySem.F.entry_list_count (PySem.F.args_list_count_2 _ _) (SeqAt.list_countAt a its.toArray n dd sl u (eqU y)) ⟨ho, fun u' hu' => mem_eqAt ru fy rv fys u' (by simpa using hu'), ?_⟩
  have ec : its.toArray.toList.countP (eqU y) = ys.countP fun z => eqV z y := countU rv fys
  refine ⟨.int ((ys.countP fun z => eqV z y : Nat) : Int), H, I.tok _, ⟨s.toks, ?_⟩, q⟩
  rw [← ec]
theorem mtIndexK (K : PySem.W.Frag) (e : X.K = K := by rfl) : MtR X "list.index" (rIndex K) := by
  subst e
  exact mt_index
end
/-! ### the errors' own __init__ -/
/-- what repr takes here -/
def Rdb (v : V) : Prop := (∃ i : Int, v = .int i ∧ i.natAbs < 10 ^ 200) ∨ ∃ y : Str, v = .str y ∧ (reprText y).length ≤ 100000
theorem text_len {i : Int} (h : i.natAbs < 10 ^ 200) : (Str.ofString (toString i)).length ≤ 201 := by
  by_cases h0 : 0 ≤ i
  · exact Nat.le_succ_of_le (PyProof.Rows.toString_length_le h0 (by decide) (by
      have : ((i.natAbs : Nat) : Int) < ((10 ^ 200 : Nat) : Int) := by exact_mod_cast h
      rw [show ((i.natAbs : Nat) : Int) = i by omega] at this
      exact_mod_cast this))
  · have e := PyProof.Rows.len_text_negI (n := i) (by omega)
    have h2 := PyProof.Rows.toString_length_le (v := 0 - i) (k := 200) (by omega) (by decide) (by
      have : ((i.natAbs : Nat) : Int) < ((10 ^ 200 : Nat) : Int) := by exact_mod_cast h
      rw [show ((i.natAbs : Nat) : Int) = 0 - i by omega] at this
      exact_mod_cast this)
    omega
def sp_init (K : PySem.W.Frag) : Sp := fun vs H Q _ => ∃ (a C : Addr) (v : V), vs = [.ref a, v] ∧ OexC K C ∧ PySem.W.findIn K (.ref C) "what" = some none ∧ H a = some (exo a C none) ∧ Rdb v ∧
  ∀ d, H d = none → d ≠ a → Q .non (upd (upd H d (exd d [(("what" : Str), v)])) a (exo a C (some d)))
/-- such a class with its __init__ -/
structure OwnD (P : Program) (w : World) (K : PySem.W.Frag) (mg : Str → Option Value) (base : Heap) (x : Str) (C : Addr) : Prop where
  ex : ∃ (fI : Addr) (fd : FuncData), Own K mg x C fI ∧ FnOk P w K mg base CX0 1 fI fd ["self", "what"] (sp_init K) ∧ Binds K fd ["self", "what"] []
theorem OwnD.own {P : Program} {w : World} {K : PySem.W.Frag} {mg : Str → Option Value} {base : Heap} {x : Str} {C : Addr} (O : OwnD P w K mg base x C) : ∃ fI, Own K mg x C fI := by
  obtain ⟨fI, _, T, _⟩ := O.ex
  exact ⟨fI, T⟩
theorem OwnD.g {P : Program} {w : World} {K : PySem.W.Frag} {mg : Str → Option Value} {base : Heap} {x : Str} {C : Addr} (O : OwnD P w K mg base x C) : mg x = some (.ref C) := by
  obtain ⟨fI, T⟩ := O.own
  exact T.g
section
variable {X : Cx} {C : Addr} {x : Str} {e : Expr} {es : List Expr} {ta : TA} {W : WX} {p pos pos2 : Pos}
theorem pa_on {σ : L2.St} {H : Hp} {R : List V → Hp → Prop} (ha : PA X es ta) (h : ta σ H R) : PA X es (fun σ' H' Q' => σ' = σ ∧ H' = H ∧ ∀ vs H1, R vs H1 → Q' vs H1) := by
  refine ⟨fun pos pins s σ' H' Q' I h2 => ?_⟩
  obtain ⟨rfl, rfl, h2⟩ := h2
  exact thn (ha.run pos pins s σ' H' R I h) fun us s1 ⟨vs, H1, I1, r1, q⟩ => ⟨vs, H1, I1, r1, h2 vs H1 q⟩
/-- raise C(e) -/
def tRaiseOwn (C : Addr) (W : WX) (ta : TA) : TS := fun _ σ H => ta σ H fun vs H1 => ∃ v, vs = [v] ∧ Rdb v ∧ ∀ d, H1 d = none → W (.ref C) (some d) σ (upd H1 d (.xd [(("what" : Str), v)]))
theorem ps_raiseOwn (O : OwnD X.prog X.w X.K X.mg X.base x C) (hr : Room 2 X.A) (hc : X.calm = true) (tk : Takes X W) (ha : PA X [e] ta) (hg : Gl X x) (hdb : (x == ("__debug__" : Str)) = false := by decide)
    (he : starEach [e] X.env = (false, eval e X.env) :: starEach [] X.env := by rfl) (hpl : (backTo pos (starEach [] X.env)).any (·.1) = false := by rfl) :
    PS X (.Raise (some (.Call (.Name x p) [e] [] pos)) none pos2) (tRaiseOwn C W ta) := by
  obtain ⟨fI, fd, T, F, b⟩ := O.ex
  refine ⟨fun pins s σ H D I h => ?_⟩
  refine (ps_raise hc tk (pmk_oex T.o T.iC T.tI F hr b .nil pass0 hg T.g (pa_on ha h) hdb he hpl)).run pins s σ H D I ⟨rfl, rfl, fun vs H1 ⟨v, ev, rv, q⟩ => ?_⟩
  subst ev
  refine ⟨by show 1 ≤ 1000; decide, fun a na => ⟨a, C, v, rfl, T.o, T.no, upd_same, rv, fun d nd da => ⟨rfl, d, _, upd_same, by rw [upd_ne da, upd_same], ?_, ?_⟩⟩⟩
  · rw [upd_ne da] at nd
    exact nd
  · rw [mk_heap na da]
    exact q d (by rw [upd_ne da] at nd; exact nd)
end
theorem valsRefs : ∀ {l : List Addr} {us : List Value}, Vals (l.map V.ref) us → us = l.map Value.ref
  | [], _, .nil => rfl
  | a :: l, _, .cons r t => by
    obtain rfl : _ = Value.ref a := r
    rw [List.map_cons, valsRefs t]
theorem relRef (a : Addr) : RelV (.ref a) (.ref a) := rfl
theorem bootVE : bootBuiltins "ValueError" = some (.type "ValueError") := by decide +kernel
theorem own_mro (C0 : Addr) : PySem.HandSPX.refsVE [.ref C0, .type "ValueError", .type "Exception", .type "BaseException", .type "object"] = true := by
  show PySem.HandSPX.refsVE [.type "ValueError", .type "Exception", .type "BaseException", .type "object"] = true
  decide +kernel
theorem kit_self {K : PySem.W.Frag} (C : Addr) : PySem.W.kitOne K (.ref C) (.ref C) = some true := by
  unfold PySem.W.kitOne
  rw [if_pos (beq_self_eq_true _)]
theorem kit_no {K : PySem.W.Frag} {C D : Addr} (h : PySem.W.subIn K (.ref C) (.ref D) = some false) (hc : PySem.W.isClsIn K D = true) (ht : PySem.W.typeIn K (.ref D) = some (.type "type")) (ne : C ≠ D) : PySem.W.kitOne K (.ref C) (.ref D) = some false := by
  unfold PySem.W.kitOne
  rw [if_neg (fun z => ne (Value.ref.inj (eq_of_beq z)))]
  have h1 : (PySem.W.clsIn K D).isSome = true := hc
  show (if ((PySem.W.clsIn K D).isSome && PySem.W.typeIn K (.ref D) == some (.type "type")) = true then PySem.W.subIn K (.ref C) (.ref D) else none) = _
  rw [if_pos (by rw [h1, ht]; rfl)]
  exact h
theorem kit_ve {K : PySem.W.Frag} {C : Addr} (h : PySem.W.subIn K (.ref C) (.type "ValueError") = some true) : PySem.W.kitOne K (.ref C) (.type "ValueError") = some true := by
  unfold PySem.W.kitOne
  have hne : ¬ (Value.ref C == Value.type "ValueError") = true := fun z => nomatch (eq_of_beq z)
  rw [if_neg hne]
  show (if PySem.W.kitMeta "ValueError" = true then PySem.W.subIn K (.ref C) (.type "ValueError") else none) = _
  rw [if_pos (by decide +kernel)]
  exact h
theorem kit_none {K : PySem.W.Frag} {t : Value} : ∀ {l : List Value}, (∀ c ∈ l, PySem.W.kitOne K t c = some false) → PySem.W.kitAny K t l = some false
  | [], _ => rfl
  | c :: l, h => by
    unfold PySem.W.kitAny
    rw [h c List.mem_cons_self]
    exact kit_none fun d m => h d (List.mem_cons_of_mem _ m)
end El
namespace El
open PySem PySem.Spec PyProof.Rows L2
/-! ### a def that refuses some things and answers others: both promises put together -/
theorem Df.orx {P : Program} {w : World} {K : PySem.W.Frag} {mg : Str → Option Value} {base : Heap} {j k : Nat} {x : Str} {ps : List Str} {st : Stmt} {sp1 sp2 : Sp} (G : Df P w K mg base j x ps st sp1) (B : DfX P w K mg base k x ps st sp2) (h : j ≤ k) :
    DfX P w K mg base k x ps st (fun vs H Q E => sp1 vs H Q E0 ∨ sp2 vs H Q E) := by
  obtain ⟨f, fd, F, m, G1, b⟩ := G.ex
  obtain ⟨f', fd', F', m', B1, _⟩ := B.ex
  obtain rfl : f = f' := Value.ref.inj (Option.some.inj (m.symm.trans m'))
  have efd : fd = fd' := by
    obtain ⟨_, _, _, _, _, _, _, _, _, rfl, l1, _⟩ := F.ex
    obtain ⟨_, _, _, _, _, _, _, _, _, rfl, l2, _⟩ := F'.ex
    exact Data.func.inj (Obj.mk.inj (Option.some.inj (l1.symm.trans l2))).2.2.1
  subst efd
  refine ⟨f, fd, F, m, ⟨fun vs H Q E hs => hs.elim (G1.len vs H Q E0) (B1.len vs H Q E), fun A outer s H args us vs Q E room ent bound vals want => ?_⟩, b⟩
  rcases want with want | want
  · refine codeAny_mono (G1.run A outer s H args us vs Q E0 (room.mono h) ent bound vals want) fun r s2 told => ?_
    match r, told with
    | .ok (.ret _), told => exact told
    | .error _, told => exact told.elim
  · exact B1.run A outer s H args us vs Q E room ent bound vals want
theorem Df.up {P : Program} {w : World} {K : PySem.W.Frag} {mg : Str → Option Value} {base : Heap} {j k : Nat} {x : Str} {ps : List Str} {st : Stmt} {sp : Sp} (G : Df P w K mg base j x ps st sp) (h : j ≤ k) : Df P w K mg base k x ps st sp := by
  obtain ⟨f, fd, F, m, G1, b⟩ := G.ex
  exact ⟨f, fd, F, m, G1.mono h, b⟩
theorem DfX.up {P : Program} {w : World} {K : PySem.W.Frag} {mg : Str → Option Value} {base : Heap} {j k : Nat} {x : Str} {ps : List Str} {st : Stmt} {sp : Sp} (G : DfX P w K mg base j x ps st sp) (h : j ≤ k) : DfX P w K mg base k x ps st sp := by
  obtain ⟨f, fd, F, m, G1, b⟩ := G.ex
  exact ⟨f, fd, F, m, G1.mono h, b⟩
/-! ### errors whose value is a number, a text, None or a pair of numbers -/
def RdW (H : Hp) (v : V) : Prop := Rdb v ∨ v = .non ∨ ∃ (t : Addr) (i j : Int), v = .ref t ∧ H t = some (.tup [.int i, .int j]) ∧ i.natAbs < 10 ^ 200 ∧ j.natAbs < 10 ^ 200
theorem RdW.same {H H' : Hp} {v : V} (h : RdW H v) (k : Same H H') : RdW H' v := by
  rcases h with h | h | ⟨t, i, j, e, et, hi, hj⟩
  · exact .inl h
  · exact .inr (.inl h)
  · exact .inr (.inr ⟨t, i, j, e, k _ _ et, hi, hj⟩)
theorem two_pair (a b : Str) : (tupleText [a, b]).length = a.length + b.length + 4 := by
  have h := join_length_add [a, b] (List.cons_ne_nil _ _)
  rw [piled_cons, piled_cons, piled_nil] at h
  have o : ("(" : Str).length = 1 := by decide +kernel
  have c : (((if [a, b].length == 1 then ",)" else ")" : String) : Str)).length = 1 := by
    show ((")" : String) : Str).length = 1
    decide +kernel
  unfold tupleText
  rw [Str.length_append, Str.length_append, o, c]
  omega
theorem bits_of {i : Int} (h : i.natAbs < 10 ^ 200) : i.natAbs.log2 < 1920 := by
  by_cases h0 : i.natAbs = 0
  · rw [h0]
    decide
  · exact Nat.lt_trans ((Nat.log2_lt h0).mpr (Nat.lt_trans h (by decide +kernel : 10 ^ 200 < 2 ^ 700))) (by decide)
/-- {x!r}: some text, not too long -/
def tFmtW (te : TE) : TE := fun σ H Q => te σ H fun x H1 => RdW H1 x ∧ ∀ m : Str, m.length ≤ 100000 → Q (.str m) H1
section
variable {X : Cx}
theorem pe_fmtW {e : Expr} {te : TE} {pos : Pos} {k : Nat} (hr : Room k X.A) (he : PE X e te) : PE X (.FormattedValue e 114 none pos) (tFmtW te) := by
  constructor
  intro pins s σ H Q inv asks
  apply wpAny_FormattedValue_repr
  refine wpAny_mono (he.run pins s σ H _ inv asks) (fun v s1 got => ?_) fun _ _ err => err
  obtain ⟨x, H1, I1, r1, hw, q⟩ := got
  have hs : (100000 : Nat) ≤ sizeLine := by decide
  have told : ∀ (m : Str) (u t' : Tok), m.length ≤ 100000 → EP X pins σ Q (.str m u) { s1 with toks := t' } := fun m u t' hm => ⟨.str m, H1, I1.tok _, ⟨u, rfl⟩, q m hm⟩
  rcases hw with (⟨i, rfl, hi⟩ | ⟨y, rfl, hy⟩) | rfl | ⟨t, i, j, rfl, et, hi, hj⟩
  · obtain ⟨t, rfl⟩ := r1
    have hl : (Str.ofString (toString i)).length ≤ 100000 := Nat.le_trans (text_len hi) (by decide)
    exact pyReprObj_int (bits_of hi) (wpAny_formatField_str (told _ _ _ hl) (told _ _ _ hl) (int_text_fits (bits_of hi)))
  · obtain ⟨t, rfl⟩ := r1
    have hz := Nat.le_trans hy hs
    exact pyReprObj_str (wpAny_formatField_str (told _ _ _ hy) (told _ _ _ hy) hz) hz
  · cases r1
    have hl : (("None" : String) : Str).length ≤ 100000 := by decide +kernel
    exact pyReprObj_none (wpAny_formatField_str (told _ _ _ hl) (told _ _ _ hl) (Nat.le_trans hl hs))
  · cases r1
    obtain ⟨its, rv, ⟨o, ho, hcl, n, hd⟩, _⟩ := I1.tuple (SqT.of (K := X.K) et)
    obtain ⟨u1, u2, rfl, r1, r2⟩ := vals2 rv
    obtain ⟨k1, rfl⟩ := r1
    obtain ⟨k2, rfl⟩ := r2
    have hu := hr.units
    have hT : ReprAll X.prog X.w [Value.int i k1, Value.int j k2] [Str.ofString (toString i), Str.ofString (toString j)] := .cons (ReprIs.int k1 (bits_of hi)) (.cons (ReprIs.int k2 (bits_of hj)) .nil)
    have hz : (tupleText [Str.ofString (toString i), Str.ofString (toString j)]).length ≤ 500 := by
      rw [two_pair]
      have := text_len hi
      have := text_len hj
      omega
    refine wpAny_pyReprObj_slot (by omega) ⟨o, ho, hcl⟩ F.slot_tuple_repr (fmt_tuple_repr ho hcl hd hT (Nat.le_trans hz (by decide)) fun m u tk hm => ⟨m, u, rfl, ?_⟩)
    have hl : m.length ≤ 100000 := by omega
    exact wpAny_formatField_str (told _ _ _ hl) (told _ _ _ hl) (Nat.le_trans hl hs)
end
def sp_initW (K : PySem.W.Frag) : Sp := fun vs H Q _ => ∃ (a C : Addr) (v : V), vs = [.ref a, v] ∧ OexC K C ∧ PySem.W.findIn K (.ref C) "what" = some none ∧ H a = some (exo a C none) ∧ RdW H v ∧
  ∀ d, H d = none → d ≠ a → Q .non (upd (upd H d (exd d [(("what" : Str), v)])) a (exo a C (some d)))
structure OwnW (P : Program) (w : World) (K : PySem.W.Frag) (mg : Str → Option Value) (base : Heap) (x : Str) (C : Addr) : Prop where
  ex : ∃ (fI : Addr) (fd : FuncData), Own K mg x C fI ∧ FnOk P w K mg base CX0 1 fI fd ["self", "what"] (sp_initW K) ∧ Binds K fd ["self", "what"] []
theorem OwnW.own {P : Program} {w : World} {K : PySem.W.Frag} {mg : Str → Option Value} {base : Heap} {x : Str} {C : Addr} (O : OwnW P w K mg base x C) : ∃ fI, Own K mg x C fI := by
  obtain ⟨fI, _, T, _⟩ := O.ex
  exact ⟨fI, T⟩
section
variable {X : Cx} {C : Addr} {x : Str} {e : Expr} {ta : TA} {W : WX} {p pos pos2 : Pos}
/-- raise C(e) -/
def tRaiseW (C : Addr) (W : WX) (ta : TA) : TS := fun _ σ H => ta σ H fun vs H1 => ∃ v, vs = [v] ∧ RdW H1 v ∧ ∀ d, H1 d = none → W (.ref C) (some d) σ (upd H1 d (.xd [(("what" : Str), v)]))
theorem ps_raiseW (O : OwnW X.prog X.w X.K X.mg X.base x C) (hr : Room 2 X.A) (hc : X.calm = true) (tk : Takes X W) (ha : PA X [e] ta) (hg : Gl X x) (hdb : (x == ("__debug__" : Str)) = false := by decide)
    (he : starEach [e] X.env = (false, eval e X.env) :: starEach [] X.env := by rfl) (hpl : (backTo pos (starEach [] X.env)).any (·.1) = false := by rfl) :
    PS X (.Raise (some (.Call (.Name x p) [e] [] pos)) none pos2) (tRaiseW C W ta) := by
  obtain ⟨fI, fd, T, F, b⟩ := O.ex
  refine ⟨fun pins s σ H D I h => ?_⟩
  refine (ps_raise hc tk (pmk_oex T.o T.iC T.tI F hr b .nil pass0 hg T.g (pa_on ha h) hdb he hpl)).run pins s σ H D I ⟨rfl, rfl, fun vs H1 ⟨v, ev, rv, q⟩ => ?_⟩
  subst ev
  refine ⟨by show 1 ≤ 1000; decide, fun a na => ⟨a, C, v, rfl, T.o, T.no, upd_same, rv.same (same_new na), fun d nd da => ⟨rfl, d, _, upd_same, by rw [upd_ne da, upd_same], ?_, ?_⟩⟩⟩
  · rw [upd_ne da] at nd
    exact nd
  · rw [mk_heap na da]
    exact q d (by rw [upd_ne da] at nd; exact nd)
end
end El
namespace El
open PySem PySem.Spec PyProof.Rows L2
/-! ### an exception that is kept behind its suite -/
def Exc (a : Addr) (cls : Value) (d : Option Addr) : HO := .ext fun h => ∃ (oe : Obj) (vs : Array Value), h.get? a = some oe ∧ Zc cls d oe ∧ oe.data = .fields vs
/-- what is asked of an exception that comes: it is of the class c, and the suite lets go on, the exception noted -/
def wKept (K : PySem.W.Frag) (c : Value) (i : Nat) (ts : Addr → Value → Option Addr → TS) (D : Ends) : WX := fun cls d σ H =>
  PySem.W.exmOne K cls c = some true ∧ ∀ a, H a = none → ts a cls d { nx := fun σ' H' => D.nx (σ'.set i none) (upd H' a (Exc a cls d)), rt := fun _ _ => False, bk := fun _ _ => False, ct := fun _ _ => False } (σ.set i (some (.ref a))) H
section
variable {X : Cx} {pins : List (Addr × Obj)} {σ : L2.St} {H : Hp} {s : Shared}
/-- one more pin -/
theorem pin_more (I : Inv X pins σ H s) {p : Addr × Obj} (e : s.heap.get? p.1 = some p.2) (n : H p.1 = none) (nl : p.1 ≠ X.env.locals) (nf : p.1 ∉ X.fs) (nc : ∀ v, p.2.data ≠ .cell v) : Inv X (p :: pins) σ H s :=
  I.pins_of fun q m => (List.mem_cons.mp m).elim (fun z => by subst z; exact ⟨e, n, nl, nf, nc⟩) fun z => I.pin q (List.mem_append_right _ z)
/-- a pinned exception is noted -/
theorem note_exc {a : Addr} {oe : Obj} {vs : Array Value} {cls : Value} {d : Option Addr} (I : Inv X ((a, oe) :: pins) σ H s) (hz : Zc cls d oe) (hd : oe.data = .fields vs) (new : ∀ o, X.s_0.heap.get? a = some o → X.H_0 a ≠ none) (apart : ∀ p ∈ X.pn ++ pins, p.1 ≠ a) :
    Inv X pins σ (upd H a (Exc a cls d)) s := by
  obtain ⟨ea, na, nl, nf, nc⟩ := I.pin (a, oe) (List.mem_append_right _ List.mem_cons_self)
  have other : ∀ {b : Addr}, b ≠ a → upd H a (Exc a cls d) b = H b := fun z => upd_ne z
  have dead : ∀ {b : Addr} {u : HO}, H b = some u → b ≠ a := fun e z => by
    rw [z, na] at e
    cases e
  have cells : ∀ y c, X.env.cells.lookup y = some c → c ≠ a := fun y c e1 z => by
    obtain ⟨v, o, e2, e3⟩ := I.cell y c e1
    rw [z, ea] at e2
    exact nc v (by rw [Option.some.inj e2]; exact e3)
  refine { ok := I.ok, os := I.os, bare := I.bare, loc := I.loc, cell := I.cell, len := I.len, base := ⟨I.base.keep, I.base.slot, fun b o e1 e2 e3 => ?_, I.base.there, fun b xs e1 => ?_, fun b o u e1 => ?_, fun b ps e1 => ?_⟩, free := ?_, freeC := fun y c e1 => ?_, pin := fun p m => ?_, hok := fun b u e1 => ?_ }
  · rw [other fun z => new o (z ▸ e1) (z ▸ e2)]
    exact I.base.free b o e1 e2 e3
  · have e2 := I.base.tups b xs e1
    rw [other (dead e2)]
    exact e2
  · have e2 := I.base.frzs b o u e1
    rw [other (dead e2)]
    exact e2
  · obtain ⟨more, e2⟩ := I.base.tbls b ps e1
    exact ⟨more, by rw [other (dead e2)]; exact e2⟩
  · rw [other nl.symm]
    exact I.free
  · rw [other (cells y c e1)]
    exact I.freeC y c e1
  · obtain ⟨p1, p2, p3, p4, p5⟩ := I.pin p ((List.mem_append.mp m).elim (fun z => List.mem_append_left _ z) fun z => List.mem_append_right _ (List.mem_cons_of_mem _ z))
    exact ⟨p1, by rw [other (apart p m)]; exact p2, p3, p4, p5⟩
  · by_cases hb : b = a
    · subst hb
      obtain rfl : Exc b cls d = u := Option.some.inj (upd_same.symm.trans e1)
      exact ⟨⟨oe, vs, ea, hz, hd⟩, ⟨oe, ea⟩, fun h1 h2 ⟨o, v, q1, q2⟩ k => ⟨o, v, k o q1, q2⟩⟩
    · rw [other hb] at e1
      exact (I.hok b u e1).stay (fun _ _ _ q => q) (fun _ q => by rw [other (dead q)]; exact q) fun _ _ q => by rw [other (dead q)]; exact q
end
section
variable {X : Cx} {x n : Str} {c : Value} {i : Nat} {body suite : List Stmt} {b₀ : Stmt} {np pos pos' : Pos} {tb : WX → TS} {ts : Addr → Value → Option Addr → TS}
/-- try: .. except x as n: .., the exception alive behind it -/
theorem ps_try_kept (hs : X.stack = X.env :: X.outer) (hf : X.env.frame = some X.env.locals) (hN : X.N.Nodup) (hi : X.N[i]? = some n) (hln : X.env.kindOf n = some .local) (hc : Names X x c) (hx : X.ex = [])
    (hb : ∀ W pn xe, Takes (X.tr pn xe) W → PassesOwn (model X.prog X.w) X.A X.env xe → PSs (X.tr pn xe) body (tb W))
    (hsu : ∀ a oe cls d pn, Zc cls d oe → (∃ vs, oe.data = .fields vs) → PSs (X.suite a ((a, oe) :: pn)) (b₀ :: suite) (ts a cls d)) :
    PS X (.Try body [.ExceptHandler (some (.Name x np)) (some n) (b₀ :: suite) pos'] [] [] pos) (fun D σ H => tb (wKept X.K c i ts D) D σ H) := by
  constructor
  intro pins s σ H D I asks
  have ok := I.ok
  have frames : X.A.frames = some (X.env :: X.outer) := ok.frames.trans (congrArg some hs)
  apply wpAny_Try_except
  have run := (hb (wKept X.K c i ts D) (X.pn ++ pins) (fun e s₁ => wpAny (model X.prog X.w) X.A (noteFrame e X.env) (fun _ s₂ => wpAny (model X.prog X.w) X.A (setFlight e none) (fun _ s₃ => wpAny (model X.prog X.w) X.A (handleBy e X.env [.ExceptHandler (some (.Name x np)) (some n) (b₀ :: suite) pos']) (SP X pins D) X.xe s₃) X.xe s₂) X.xe s₁) ?air PassesOwn.looking).run [] s σ H D (I.toTry _) asks
  case air =>
    intro u s1 flown
    obtain ⟨a, ground, s0, pins0, σ1, H1, cls, d, rfl, inTry, stays, slots, sky, na, os, bare, hit, go⟩ := flown
    have J : Inv X pins σ1 H1 s0 := inTry.ofTry ok
    have gone : ground.get? a = none := by
      rcases sky with z | z | z
      · exact z.2.1
      · exact z.2.1
      · exact z.2.1
    have apart0 : ∀ {b : Addr} {o : Obj}, s0.heap.get? b = some o → b ∉ frs X.stack → b ≠ a := fun e nb z => by
      have := stays _ _ e nb
      rw [z, gone] at this
      cases this
    have offStack : ∀ {b : Addr}, b ≠ X.env.locals → b ∉ X.fs → b ∉ frs X.stack := fun n1 n2 m => by
      rw [hs] at m
      obtain ⟨e, me, he⟩ := List.mem_filterMap.mp m
      rcases List.mem_cons.mp me with rfl | me
      · rw [hf] at he
        exact n1 (Option.some.inj he).symm
      · exact n2 (List.mem_filterMap.mpr ⟨e, me, he⟩)
    rw [hs] at sky
    change wpAny _ X.A (noteFrame (Value.ref a) X.env) _ _ s1
    apply Sky.land Zc.steady frames hf sky
    intro h3 fly3 slots3
    have J3 : Inv X pins σ1 H1 { s1 with heap := h3 } := J.landed stays fly3.1 (slots.trans slots3) os bare
    obtain ⟨o3, v3, e3, z3, d3⟩ := fly3.there
    have notFrame : ∀ {h : Heap} {o : Obj} {v : Array Value}, h.FunFrames ground (X.env :: X.outer) → h.get? a = some o → o.data = .fields v → a ∉ frs (X.env :: X.outer) := fun ff e dd m => by
      obtain ⟨_, o', e', no⟩ := ff.mem m
      obtain rfl := Option.some.inj (e.symm.trans e')
      exact no _ dd
    have off := notFrame fly3.2.2.1 e3 d3
    have nl : a ≠ X.env.locals := fun z => off (List.mem_filterMap.mpr ⟨X.env, List.mem_cons_self, by rw [hf, z]⟩)
    have nf : a ∉ X.fs := fun m => by
      obtain ⟨e, me, q⟩ := List.mem_filterMap.mp m
      exact off (List.mem_filterMap.mpr ⟨e, List.mem_cons_of_mem _ me, q⟩)
    have inSuite := J3.suite e3 d3 na nl nf
    have new : ∀ o, X.s_0.heap.get? a = some o → X.H_0 a ≠ none := fun o e0 h0 => by
      have := J.base.keep a o e0 h0 nf (by rw [hx]; exact List.not_mem_nil)
      exact apart0 this (offStack nl nf) rfl
    have apart : ∀ p ∈ X.pn ++ pins, p.1 ≠ a := fun p m => by
      obtain ⟨p1, _, p3, p4, _⟩ := J.pin p m
      exact apart0 p1 (offStack p3 p4)
    apply wpAny_handleBy_cons (codeAny_handlers_test ?asked) (by intro q; cases q)
    have kind : PySem.W.Looks (model X.prog X.w) h3 (typeOf (.ref a)) cls := fun A Q E s k q => wpAny_typeOf_ref (k _ _ e3) (by rw [z3.1]; exact q)
    have fits := PySem.W.exm_one (M := model X.prog X.w) J3.kIn kind hit
    have named : ∀ {Q E : Value → Shared → Prop}, Q c { s1 with heap := h3 } → wpAny (model X.prog X.w) (X.A.mark (some (.ref a))) (eval (.Name x np) X.env) Q E { s1 with heap := h3 } := fun {Q E} q => by
      obtain ⟨glob, plain, here | ⟨absent, boot, notName⟩⟩ := hc
      · exact ld_glob (X := X.suite a ((a, o3) :: (X.pn ++ pins))) inSuite glob here q plain
      · exact ld_blt (X := X.suite a ((a, o3) :: (X.pn ++ pins))) inSuite glob absent boot q notName plain
    apply named
    apply fits.here
    apply codeAny_handlers_suite_as
    apply HandSPX.lands_againZ fly3
    intro h4 fly4 slots4
    have J4 : Inv X pins σ1 H1 { s1 with heap := h4 } := J.landed stays fly4.1 ((slots.trans slots3).trans slots4) os bare
    obtain ⟨o4, v4, e4, z4, d4⟩ := fly4.there
    have start4 := J4.suite e4 d4 na nl nf
    apply store_ok (X := X.suite a ((a, o4) :: (X.pn ++ pins))) (v := .ref a) start4 hN hi (.inl hln) rfl ?_ (.inr hln)
    intro s5 I5
    refine wpAny_mono ((hsu a o4 cls d (X.pn ++ pins) z4 ⟨_, d4⟩).run [] s5 _ H1 _ I5 (go a na)) (fun flow s6 told => ?_) fun _ _ no => no.elim
    cases flow with
    | next =>
      obtain ⟨σ6, H6, I6, q6⟩ := told
      have P6 := I6.pin (a, o4) (List.mem_append_left _ List.mem_cons_self)
      exact gone_ok (pin_more (I6.unsuite ok) P6.1 P6.2.1 nl nf P6.2.2.2.2) hN hi hln fun s7 I7 => ⟨_, _, note_exc I7 z4 d4 new apart, q6⟩
    | brk =>
      obtain ⟨_, _, _, no⟩ := told
      exact no.elim
    | cont =>
      obtain ⟨_, _, _, no⟩ := told
      exact no.elim
    | ret u =>
      obtain ⟨_, _, _, _, _, no⟩ := told
      exact no.elim
  refine wpAny_mono run (fun flow s1 told => ?_) fun _ _ err => err
  cases flow with
  | next =>
    obtain ⟨σ1, H1, I1, q1⟩ := told
    exact wpAny_execs_nil ⟨σ1, H1, I1.ofTry ok, q1⟩
  | brk =>
    obtain ⟨σ1, H1, I1, q1⟩ := told
    exact ⟨σ1, H1, I1.ofTry ok, q1⟩
  | cont =>
    obtain ⟨σ1, H1, I1, q1⟩ := told
    exact ⟨σ1, H1, I1.ofTry ok, q1⟩
  | ret u =>
    obtain ⟨v, σ1, H1, I1, r1, q1⟩ := told
    exact ⟨v, σ1, H1, I1.ofTry ok, r1, q1⟩
end
end El
namespace El
open PySem PySem.Spec PyProof.Rows L2
/-! ### such an exception asked: its class, its value -/
/-- of the class at D, its dict at dd with the value v in it -/
structure ExcAt (K : PySem.W.Frag) (mg : Str → Option Value) (H : Hp) (a D : Addr) (v : V) : Prop where
  ex : ∃ (x : Str) (fI dd : Addr), H a = some (Exc a (.ref D) (some dd)) ∧ H dd = some (.xd [(("what" : Str), v)]) ∧ Own K mg x D fI
theorem ExcAt.keep {K : PySem.W.Frag} {mg : Str → Option Value} {H H' : Hp} {a D : Addr} {v : V} (h : ExcAt K mg H a D v) (k : Same H H') : ExcAt K mg H' a D v :=
  let ⟨x, fI, dd, e, ed, O⟩ := h.ex
  ⟨x, fI, dd, k _ _ e, k _ _ ed, O⟩
section
variable {X : Cx} {pins : List (Addr × Obj)} {σ : L2.St} {H : Hp} {s : Shared}
theorem exc_inst {a D dd : Addr} {fs : List (Str × V)} (I : Inv X pins σ H s) (e : H a = some (Exc a (.ref D) (some dd))) (ed : H dd = some (.xd fs)) :
    ∃ (oe : Obj) (od : Obj) (mA : Str → Option Value), PySem.W.InstAt s.heap a oe D (some od) ∧ (∀ f, RelO (fs.lookup f) (mA f)) ∧ ∀ f, PySem.W.lookIn f od = some (mA f) := by
  obtain ⟨⟨oe, vs, here, ⟨hc, hdict⟩, hdata⟩, _⟩ := (show ObjOk X.prog X.w H s.heap a (Exc a (.ref D) (some dd)) from I.hok a _ e)
  obtain ⟨mA, names, rel⟩ := (show ObjOk X.prog X.w H s.heap dd (.xd fs) from I.hok dd _ ed)
  obtain ⟨od, look, same⟩ := lookIn_ns names
  exact ⟨oe, od, mA, ⟨here, hc, by unfold PySem.W.notCls; rw [hdata] <;> rfl, by rw [hdict]; exact look⟩, rel, fun f => same f⟩
/-- isinstance(e, c), isinstance(e, (c1, ..)) -/
def rIsE (K : PySem.W.Frag) (mg : Str → Option Value) : List V → Hp → VK → Prop := fun xs H Q => ∃ (a D : Addr) (v : V), ExcAt K mg H a D v ∧ IsX K ∧ (rIsD K D a xs H Q ∨ rIsT K D a xs H Q)
theorem call_isE (K : PySem.W.Frag) (mg : Str → Option Value) (e : X.K = K := by rfl) (e2 : X.mg = mg := by rfl) : CallR X (.builtin "isinstance") (rIsE K mg) := by
  subst e e2
  intro pins s σ H xs us Q I rel asks
  obtain ⟨a, D, v, ⟨x, fI, dd, ea, ed, T⟩, J, asks⟩ := asks
  obtain ⟨oe, od, mA, here, _, _⟩ := exc_inst I ea ed
  have kit := own_kit (a := a) (oe := oe) (od := some od) T J
  rcases asks with ⟨c, cv, b, rfl, one, told, q⟩ | ⟨t, cs, cvs, b, rfl, tup, all, told, q⟩
  · obtain ⟨u1, u2, rfl, r1, r2⟩ := vals2 rel
    obtain rfl : u1 = Value.ref a := r1
    obtain rfl := one _ r2
    exact PySem.W.kia_one kit I.kIn here told (fun z => nomatch z) fun tk => ⟨.bl b, H, I.kept (t' := tk) fun _ _ z => z, rfl, q⟩
  · obtain ⟨u1, u2, rfl, r1, r2⟩ := vals2 rel
    obtain rfl : u1 = Value.ref a := r1
    obtain rfl : u2 = Value.ref t := r2
    obtain ⟨its, vals, ⟨⟨oc, od', oda, osl⟩, here2, hc, n, hd⟩, _⟩ := I.tuple tup
    obtain rfl := all _ vals
    dsimp only at hc hd
    subst hc hd
    exact PySem.W.kia_tup kit I.kIn here here2 told (fun z => nomatch z) fun tk => ⟨.bl b, H, I.kept (t' := tk) fun _ _ z => z, rfl, q⟩
/-- e.what -/
def tWhat (K : PySem.W.Frag) (mg : Str → Option Value) (te : TE) : TE := fun σ H Q => te σ H fun x H1 => ∃ (a D : Addr) (v : V), x = .ref a ∧ ExcAt K mg H1 a D v ∧ Q v H1
theorem pe_what {e : Expr} {te : TE} {pos : Pos} (K : PySem.W.Frag) (mg : Str → Option Value) (he : PE X e te) (eK : X.K = K := by rfl) (e2 : X.mg = mg := by rfl) (hb : attributeBase e "what" X.env (eval e X.env) = eval e X.env := by rfl) :
    PE X (.Attribute e "what" pos) (tWhat K mg te) := by
  subst eK e2
  constructor
  intro pins s σ H Q I asks
  apply attr_of hb
  refine wpAny_mono (he.run pins s σ H _ I asks) (fun u s1 got => ?_) fun _ _ err => err
  obtain ⟨x, H1, I1, rx, a, D, v, rfl, ⟨xn, fI, dd, ea, ed, T⟩, q⟩ := got
  obtain rfl : u = Value.ref a := rx
  obtain ⟨oe, od, mA, here, rel, same⟩ := exc_inst I1 ea ed
  obtain ⟨u, hu, ru⟩ := RelO.some_of (v := v) (o := mA ("what" : Str)) (by
    have := rel "what"
    exact this)
  exact HandSPX.exc_get I1.kIn here T.xf.ga T.xf.gg T.xf.exC (PySem.W.findObj_own T.xf.hdC T.no rfl (by rw [same, hu])) (handed_of ru) ⟨v, H1, I1.tok _, ru, q⟩
end
end El
namespace El
open PySem PySem.Spec PyProof.Rows L2
/-! ### the first guest that there can't be; the first room with a wrong age in it -/
def BadAt (gs : List (Int × Int)) (i : Nat) : Prop := ∃ g, gs[i]? = some g ∧ (g.2 < 0 ∨ g.1 ∈ (gs.take i).map (·.1))
def FirstBad (gs : List (Int × Int)) (i : Nat) : Prop := BadAt gs i ∧ ∀ j, j < i → ¬ BadAt gs j
theorem fit_of {gs : List (Int × Int)} (h : ∀ i, ¬ BadAt gs i) : Fit gs := by
  refine ⟨?_, fun g m => ?_⟩
  · rw [List.nodup_iff_pairwise_ne, List.pairwise_iff_getElem]
    intro i j hi hj hij z
    rw [List.length_map] at hi hj
    rw [List.getElem_map, List.getElem_map] at z
    refine h j ⟨gs[j], List.getElem?_eq_getElem hj, .inr ?_⟩
    rw [← z]
    refine List.mem_map_of_mem (List.mem_iff_getElem?.mpr ⟨i, ?_⟩)
    rw [List.getElem?_take_of_lt hij, List.getElem?_eq_getElem hi]
  · obtain ⟨i, e⟩ := List.mem_iff_getElem?.mp m
    exact Int.not_lt.mp fun z => h i ⟨g, e, .inl z⟩
theorem Fit.none_bad {gs : List (Int × Int)} (F : Fit gs) (i : Nat) : ¬ BadAt gs i := fun ⟨g, e, h⟩ => by
  rcases h with h | h
  · have := F.pos g (List.mem_of_getElem? e)
    omega
  · exact F.take_no e h
theorem bad_take {gs : List (Int × Int)} {i j : Nat} (h : j < i) (hb : BadAt (gs.take i) j) : BadAt gs j := by
  obtain ⟨g, e, z⟩ := hb
  rw [List.getElem?_take_of_lt h] at e
  rw [List.take_take, Nat.min_eq_left (Nat.le_of_lt h)] at z
  exact ⟨g, e, z⟩
theorem fit_take {gs : List (Int × Int)} {i : Nat} (h : ∀ j, j < i → ¬ BadAt gs j) : Fit (gs.take i) := fit_of fun j hb => by
  have hj : j < i := by
    obtain ⟨g, e, _⟩ := hb
    have := at_lt e
    rw [List.length_take] at this
    omega
  exact h j hj (bad_take hj hb)
/-- what of an arrangement has been gone through is as it should be -/
def Seemly (ages pre : List Int) : Prop := pre.Nodup ∧ ∀ b ∈ pre, b ∈ ages
theorem Seemly.nil (ages : List Int) : Seemly ages [] := ⟨List.nodup_nil, fun b m => by cases m⟩
theorem Seemly.snoc {ages pre : List Int} {a : Int} (h : Seemly ages pre) (h1 : a ∈ ages) (h2 : a ∉ pre) : Seemly ages (pre ++ [a]) := by
  refine ⟨List.nodup_append.mpr ⟨h.1, by simp, fun x hx y hy => ?_⟩, fun b m => ?_⟩
  · rw [List.mem_singleton.mp hy]
    exact fun z => h2 (z ▸ hx)
  · rcases List.mem_append.mp m with m | m
    · exact h.2 b m
    · rw [List.mem_singleton.mp m]
      exact h1
theorem Seemly.len {ages pre : List Int} (h : Seemly ages pre) : pre.length ≤ ages.length := List.Nodup.length_le_of_subset h.1 h.2
theorem Seemly.left {ages pre l : List Int} (h : Seemly ages (pre ++ l)) : Seemly ages pre := ⟨(List.nodup_append.mp h.1).1, fun b m => h.2 b (List.mem_append_left _ m)⟩
theorem Seemly.perm {ages pre : List Int} (h : Seemly ages pre) (nd : ages.Nodup) (hl : ¬ pre.length < ages.length) : pre.Perm ages := by
  refine (List.perm_ext_iff_of_nodup h.1 nd).mpr fun a => ⟨h.2 a, fun m => Classical.byContradiction fun z => ?_⟩
  have := Seemly.len (h.snoc m z)
  rw [List.length_append, List.length_singleton] at this
  omega
/-- the first room in which stands an age that none has, or that stands ahead -/
def FirstOdd (ages : List Int) (rs : List (List Int)) (k : Nat) : Prop := ∃ (r : List Int) (j : Nat) (a : Int), rs[k]? = some r ∧ r[j]? = some a ∧ Seemly ages ((rs.take k).flatten ++ r.take j) ∧ (a ∉ ages ∨ a ∈ (rs.take k).flatten ++ r.take j)
/-- all that stands there is as it should be, but somebody is left out -/
def LeftOut (ages : List Int) (rs : List (List Int)) : Prop := Seemly ages rs.flatten ∧ rs.flatten.length < ages.length
theorem flat_pre {rs : List (List Int)} {k : Nat} {r : List Int} (e : rs[k]? = some r) {i : Nat} (h : i < k) : ∃ l, (rs.take k).flatten = (rs.take (i + 1)).flatten ++ l := by
  have := List.take_append_drop (i + 1) (rs.take k)
  refine ⟨((rs.take k).drop (i + 1)).flatten, ?_⟩
  rw [← List.flatten_append]
  congr 1
  rw [show rs.take (i + 1) = (rs.take k).take (i + 1) by rw [List.take_take, Nat.min_eq_left (by omega)]]
  exact this.symm
/-- behind the first odd one nothing fine goes on: position (i, m) is ahead of it, or it is there -/
theorem odd_ahead {ages : List Int} {rs : List (List Int)} {k j : Nat} {r : List Int} {a : Int} (er : rs[k]? = some r) (ea : r[j]? = some a) (hb : a ∉ ages ∨ a ∈ (rs.take k).flatten ++ r.take j) (hp : Seemly ages ((rs.take k).flatten ++ r.take j))
    {i m : Nat} {s : List Int} {b : Int} (es : rs[i]? = some s) (eb : s[m]? = some b) (hf : Seemly ages ((rs.take i).flatten ++ s.take m)) (hbad : b ∉ ages ∨ b ∈ (rs.take i).flatten ++ s.take m) : i = k ∧ m = j := by
  have one : ∀ {k j : Nat} {r : List Int} {a : Int}, rs[k]? = some r → r[j]? = some a → (a ∉ ages ∨ a ∈ (rs.take k).flatten ++ r.take j) → ∀ {i m : Nat} {s : List Int}, rs[i]? = some s → Seemly ages ((rs.take i).flatten ++ s.take m) → m ≤ s.length → ¬ (k < i ∨ (k = i ∧ j < m)) := fun {k j r a} er ea hb {i m s} es hf hm hlt => by
    have : ∃ l, (rs.take i).flatten ++ s.take m = ((rs.take k).flatten ++ r.take j ++ [a]) ++ l := by
      rcases hlt with h | ⟨rfl, h⟩
      · obtain ⟨l, e⟩ := flat_pre es h
        refine ⟨r.drop (j + 1) ++ l ++ s.take m, ?_⟩
        rw [e, take_snoc_flat er]
        have e2 : r = r.take j ++ [a] ++ r.drop (j + 1) := by
          rw [← take_snoc ea, List.take_append_drop]
        conv => lhs; rw [e2]
        simp
      · obtain rfl : r = s := Option.some.inj (er.symm.trans es)
        refine ⟨(r.take m).drop (j + 1), ?_⟩
        have e2 : r.take m = r.take j ++ [a] ++ (r.take m).drop (j + 1) := by
          rw [← take_snoc ea]
          have := List.take_append_drop (j + 1) (r.take m)
          rw [List.take_take, Nat.min_eq_left (by omega)] at this
          exact this.symm
        conv => lhs; rw [e2]
        simp
    obtain ⟨l, e⟩ := this
    rw [e] at hf
    have hf := hf.left
    rcases hb with hb | hb
    · exact hb (hf.2 a (List.mem_append_right _ (List.mem_singleton.mpr rfl)))
    · exact (List.nodup_append.mp hf.1).2.2 a hb a (List.mem_singleton.mpr rfl) rfl
  have h1 := one er ea hb es hf (Nat.le_of_lt (at_lt eb))
  have h2 := one es eb hbad er hp (Nat.le_of_lt (at_lt ea))
  omega
/-- where something is odd, not all is fine -/
theorem odd_not {ages : List Int} {rs : List (List Int)} {k : Nat} (h : FirstOdd ages rs k) (hf : Seemly ages rs.flatten) : False := by
  obtain ⟨r, j, a, er, ea, _, hb⟩ := h
  rcases hb with hb | hb
  · exact hb (hf.2 a (flat_mem er ea))
  · exact flat_split hf.1 er ea hb
/-- a value that a refusal keeps: a number, None, or two numbers -/
inductive Dv where
  | num (i : Int)
  | non
  | two (i j : Int)
def Dv.is (H : Hp) (v : V) : Dv → Prop
  | .num i => v = .int i
  | .non => v = .non
  | .two i j => ∃ t, v = .ref t ∧ H t = some (.tup [.int i, .int j])
theorem Dv.is.same {H H' : Hp} {v : V} (k : Same H H') : ∀ {x : Dv}, x.is H v → x.is H' v
  | .num _, h => h
  | .non, h => h
  | .two _ _, ⟨t, e, h⟩ => ⟨t, e, k _ _ h⟩
def Dv.d : Dv → PyData
  | .num i => .int i
  | .non => .none
  | .two i j => .tuple [.int i, .int j]
theorem Dv.is.dp {K : PySem.W.Frag} {H : Hp} {v : V} : ∀ {x : Dv}, x.is H v → Dp K H v x.d
  | .num i, h => by
    obtain rfl : v = .int i := h
    exact .int i
  | .non, h => by
    obtain rfl : v = .non := h
    exact .non
  | .two i j, ⟨t, e, h⟩ => by
    subst e
    exact .tup (SqT.of h) (.cons (.int i) (.cons (.int j) .nil))
theorem Dv.oks : ∀ x : Dv, Oks 1 x.d
  | .num i => (Oks.int i).mono (by decide)
  | .non => ⟨rfl, by simp [Dv.d, PyData.depth]⟩
  | .two i j => .tup fun x m => by
    rcases List.mem_cons.mp m with rfl | m
    · exact .int i
    · rw [List.mem_singleton.mp m]
      exact .int j
/-- None, or a word and such a value -/
def dDv : Option (Str × Dv) → PyData
  | none => .none
  | some (s, x) => .tuple [.str s, x.d]
def DvAt (H : Hp) (v : V) : Option (Str × Dv) → Prop
  | none => v = .non
  | some (s, x) => ∃ t u, v = .ref t ∧ H t = some (.tup [.str s, u]) ∧ x.is H u
theorem DvAt.same {H H' : Hp} {v : V} : ∀ {D : Option (Str × Dv)}, DvAt H v D → Same H H' → DvAt H' v D
  | none, h, _ => h
  | some _, ⟨t, u, e, h, hx⟩, k => ⟨t, u, e, k _ _ h, hx.same k⟩
theorem DvAt.dp {K : PySem.W.Frag} {H : Hp} {v : V} : ∀ {D : Option (Str × Dv)}, DvAt H v D → Dp K H v (dDv D)
  | none, h => by
    obtain rfl : v = .non := h
    exact .non
  | some (s, x), ⟨t, u, e, h, hx⟩ => by
    subst e
    exact .tup (SqT.of h) (.cons (.str s) (.cons hx.dp .nil))
theorem Oks.dv {D : Option (Str × Dv)} (h : ∀ s x, D = some (s, x) → PyData.strOk s = true) : Oks 2 (dDv D) := by
  cases D with
  | none => exact ⟨rfl, by simp [dDv, PyData.depth]⟩
  | some p =>
    obtain ⟨s, x⟩ := p
    have hs := h s x rfl
    exact Oks.tup (n := 1) fun y m => by
      rcases List.mem_cons.mp m with rfl | m
      · exact ⟨by simp [PyData.canLay0, hs], by simp [PyData.depth]⟩
      · rw [List.mem_singleton.mp m]
        exact x.oks
end El
namespace El
open PySem PySem.Spec PyProof.Rows L2
section
variable {X : Cx} {k : Nat} {x : Str} {ps : List Str} {st : Stmt} {sp : Sp} {p pos : Pos} {kws : List Keyword} {tkk : TA} {W : WX}
/-- f(k = v, ..) of a def that may refuse -/
theorem pe_dfSK (D : DfX X.prog X.w X.K X.mg X.base k x ps st sp) (tk : Takes X W) (ks : List Str) (g : {α : Type} → List α → List α) (hr : Room k X.A) (hg : Gl X x) (hkw : PK X kws tkk)
    (hb : ∀ (kV doc pm : Value) (an : Option Addr) (cdv ct : Value) (ws : List Value), ws.length = ks.length → bindArgs (PySem.W.fnOf x x (defArgs st) (defBody st) (defScope st) .none kV doc pm an cdv ct) ⟨[], ks.zip ws⟩ = pure (ps.zip (g ws)))
    (hrel : ∀ {zs : List V} {ws : List Value}, Vals zs ws → Vals (g zs) (g ws))
    (named : (backToKw pos (keywordEach kws X.env)).all (·.1.isSome) = true := by rfl) (names : (backToKw pos (keywordEach kws X.env)).filterMap (·.1) = ks := by rfl)
    (hdb : (x == ("__debug__" : Str)) = false := by decide) (bare : ((backTo pos (starEach [] X.env)).any (·.1) || (backToKw pos (keywordEach kws X.env)).any (·.1.isNone)) = false := by rfl) :
    PE X (.Call (.Name x p) [] kws pos) (tCallWS ks.length sp W (fun zs => g zs) tkk) := by
  obtain ⟨f, fd, F, m, G, b⟩ := D.ex
  have kp := F.kp
  constructor
  intro pins s σ H Q I asks
  apply wpAny_Call_Name_kw
  apply ld_glob I hg m _ hdb
  refine PySem.W.callWith_KW0 (h₀ := X.base) I.ok.mod.kin kp named ?_ bare
  refine wpAny_mono (hkw.run pos pins s σ H _ I asks) (fun ws s2 got => ?_) fun _ _ err => err
  obtain ⟨zs, H2, I2, rz, l2, q2⟩ := got
  refine ⟨I2.kIn, ?_⟩
  rw [names]
  have bound : BindsTo s2 fd ⟨[], ks.zip ws⟩ (ps.zip (g ws)) := by
    obtain ⟨oc, od, kV, doc, pm, an, cdv, ct, osl, rfl, look, code⟩ := F.ex
    exact .of_eq (hb kV doc pm an cdv ct ws (rz.length.symm.trans l2))
  refine wpAny_call (codeAny_mono (G.run X.A X.stack s2 H2 ⟨[], ks.zip ws⟩ (g ws) (g zs) Q (WE W σ) hr I2.env0 bound (hrel rz) q2) fun r s3 told => ?_)
  match r, told with
  | .ok (.ret _), told => exact I2.after told
  | .error e, told => exact passAt tk σ pins H2 s2 e s3 I2 told
end
end El
namespace El
open PySem PySem.Spec PyProof.Rows L2
/-! ### an exception of the text's own, made and kept as a value -/
section
variable {X : Cx} {pins : List (Addr × Obj)} {σ : L2.St} {H : Hp} {s s1 : Shared}
/-- nothing but the heap, the system and the generators' bareness is asked of a state -/
theorem inv_other (I : Inv X pins σ H s) (hh : s1.heap = s.heap) (ho : s1.os = s.os) (hb : AllBare s1.gens) : Inv X pins σ H s1 := by
  obtain ⟨h, g, d, t, o⟩ := s
  obtain ⟨h1, g1, d1, t1, o1⟩ := s1
  obtain rfl : h1 = h := hh
  obtain rfl : o1 = o := ho
  exact ⟨I.ok, I.os, hb, I.base, I.loc, I.cell, I.free, I.freeC, I.pin, I.hok, I.len⟩
/-- what makes an exception, as a value -/
def tMade (t : L2.St → Hp → XK → Prop) : TE := fun σ H Q => t σ H fun cls d H' => ∀ a, H' a = none → Q (.ref a) (upd H' a (Exc a cls d))
theorem pe_made {e : Expr} {t : L2.St → Hp → XK → Prop} (hm : PMk X e t) : PE X e (tMade t) := by
  refine ⟨fun pins s σ H Q I h => wpAny_mono (hm pins s σ H _ I h) (fun u s' hu => ?_) fun _ _ z => z⟩
  obtain ⟨a, oe, vs, sI, H', cls, d, rfl, J, k, no, yes, zc, dd, _, na, ho, hb, _, q⟩ := hu
  have J2 : Inv X pins σ H' { s' with heap := sI.heap } := inv_other J rfl ho hb
  exact ⟨.ref a, _, J2.laidN (h' := s'.heap) (t' := s'.toks) k no na (show ObjOk X.prog X.w _ s'.heap a (Exc a cls d) from ⟨⟨oe, vs, yes, zc, dd⟩, ⟨oe, yes⟩, fun h1 h2 ⟨o, v, q1, q2⟩ kk => ⟨o, v, kk o q1, q2⟩⟩), rfl, q a na⟩
end
section
variable {X : Cx} {C : Addr} {x : Str} {e : Expr} {ta : TA} {p pos : Pos}
/-- C(e), C a class whose __init__ keeps what it is given -/
def tErr (K : PySem.W.Frag) (mg : Str → Option Value) (C : Addr) (ta : TA) : TE := fun σ H Q => ta σ H fun vs H1 => ∃ v, vs = [v] ∧ RdW H1 v ∧ ∀ (a : Addr) (H2 : Hp), Same H1 H2 → H1 a = none → ExcAt K mg H2 a C v → Q (.ref a) H2
theorem pe_err (K : PySem.W.Frag) (mg : Str → Option Value) (O : OwnW X.prog X.w X.K X.mg X.base x C) (hr : Room 2 X.A) (ha : PA X [e] ta) (hg : Gl X x) (eK : X.K = K := by rfl) (eM : X.mg = mg := by rfl) (hdb : (x == ("__debug__" : Str)) = false := by decide)
    (he : starEach [e] X.env = (false, eval e X.env) :: starEach [] X.env := by rfl) (hpl : (backTo pos (starEach [] X.env)).any (·.1) = false := by rfl) :
    PE X (.Call (.Name x p) [e] [] pos) (tErr K mg C ta) := by
  subst eK eM
  obtain ⟨fI, fd, T, F, b⟩ := O.ex
  refine ⟨fun pins s σ H Q I h => ?_⟩
  refine (pe_made (pmk_oex T.o T.iC T.tI F hr b .nil pass0 hg T.g (pa_on ha h) hdb he hpl)).run pins s σ H Q I ⟨rfl, rfl, fun vs H1 ⟨v, ev, rv, q⟩ => ?_⟩
  subst ev
  refine ⟨by show 1 ≤ 1000; decide, fun a na => ⟨a, C, v, rfl, T.o, T.no, upd_same, rv.same (same_new na), fun d nd da => ⟨rfl, d, _, upd_same, by rw [upd_ne da, upd_same], ?_, fun c nc => ?_⟩⟩⟩
  · rw [upd_ne da] at nd
    exact nd
  · rw [mk_heap na da] at nc ⊢
    have nd1 : H1 d = none := by
      rw [upd_ne da] at nd
      exact nd
    have s1 := same_new (o := .xd [(("what" : Str), v)]) nd1
    have s2 := same_new (o := Exc c (.ref C) (some d)) nc
    exact q c _ (s1.trans s2) (s1.free nc) ⟨x, fI, d, upd_same, s2 _ _ (show upd H1 d (.xd [(("what" : Str), v)]) d = _ from upd_same), T⟩
end
end El
namespace El
open PySem PySem.Spec PyProof.Rows
/-! ### a class of the text's own called by keyword alone: what is read of it, then the two calls one after another -/
section
variable {M : Model} {hp : Heap}
/-- what the call reads of the class -/
structure ClsReads (M : Model) (hp : Heap) (C : Addr) (mr : List Value) (nid : String) : Prop where
  at_ : ∃ (o : Obj) (c : ClassData), hp.get? C = some o ∧ o.cls = .type "type" ∧ o.data = .cls c ∧ c.hasDel = false
  mro : PySem.W.Looks M hp (mroOf (.ref C)) mr
  made : PySem.W.Looks M hp (Bind.madeBy (.ref C)) (some nid)
  here : ∀ id, Manifest.canonical nid = Manifest.canonical id → PySem.W.Looks M hp (Bind.madeHere id (.ref C)) ()
  base : PySem.W.Looks M hp (Bind.staticBase (.ref C)) (.ref C)
  sub : ∀ b, PySem.W.Looks M hp (isSubtype (.ref C) b) (mr.contains b)
  typ : PySem.W.Looks M hp (isType (.ref C)) true
theorem reads_of {nm q : Str} {C N : Addr} {bs bm : List Value} {hd : Bool} {sn : List Str} {su : List Value} {ab : Bool} {co : Option Bool} {di : Option Addr} {j0 j1 j2 j3 j5 : Option Value} {nid : String}
    (e : hp.get? C = some (excClassObj nm q C N bs bm hd sn su ab co di j0 j1 j2 j3 j5 nid)) : ClsReads M hp C (.ref C :: bm) nid where
  at_ := ⟨_, _, e, rfl, rfl, rfl⟩
  mro := fun _ _ _ ⟨_, _, _, _, _⟩ k y => wpAny_mroOf_exc (k _ _ e) y
  made := fun _ _ _ ⟨_, _, _, _, _⟩ k y => wpAny_madeBy_exc (k _ _ e) y
  here := fun _ ca _ _ _ ⟨_, _, _, _, _⟩ k y => wpAny_madeHere_exc ca (k _ _ e) y
  base := fun _ _ _ ⟨_, _, _, _, _⟩ k y => wpAny_staticBase_exc (k _ _ e) y
  sub := fun _ _ _ _ ⟨_, _, _, _, _⟩ k y => wpAny_isSubtype_exc (k _ _ e) y
  typ := fun _ _ _ ⟨_, _, _, _, _⟩ k y => by
    unfold isType
    wp_walk
    refine wpAny_loadPart_at (k _ _ e) ?_
    wp_walk
    exact y
end
section
variable {prog : Program} {w : World} {A : Around} {E : Value → Shared → Prop} {R : Result → Shared → Prop} {s : Shared} {C : Addr} {mr bmB : List Value} {B nid iid : String}
/-- the new one is laid, whatever the keywords -/
theorem new_kw (F : ExcBaseFacts B nid iid bmB) (T : ClsReads (model prog w) s.heap C mr nid) (kw : List (Str × Value)) (cB : mr.contains (.type B) = true) (cA : mr.contains (.type "AttributeError") = false) (cN : mr.contains (.type "NameError") = false)
    (q : R (.ok (.ret (.ref (s.heap.objs.size + 1)))) { s with heap := (s.heap.push (PySem.W.kdv_tup [])).push (PySem.HandSPX.excO C s.heap.objs.size) }) :
    codeAny (model prog w) A (.builtin nid ⟨[.ref C], kw⟩) R s := by
  obtain ⟨hp, g, d, t, os⟩ := s
  have fe := F.ends
  refine PySem.codeAny_builtinAt F.entry (PySem.wpAt_bind ?_)
  show PySem.wpAt _ _ _ (stack >>= _) _ _ _
  refine PySem.wpAt_bind (PySem.wpAt_stack fun p low => PySem.wpAt_of_wpAny ?_)
  wp_walk
  refine PySem.wpAt_of_wpAny (wpAny_bind (T.typ.at ?_))
  dsimp only
  rw [if_neg (by decide), F.owner]
  refine wpAny_bind ((T.sub _).at ?_)
  rw [cB, if_neg (by decide)]
  refine wpAny_bind ((T.here _ F.canon).at (wpAny_bind ?_))
  refine wpAny_bind ((T.sub _).at ?_)
  rw [cA, if_neg (by decide)]
  refine wpAny_bind ((T.sub _).at ?_)
  rw [cN, if_neg (by decide)]
  wp_walk
  obtain ⟨o, c, e, _, ed, nd⟩ := T.at_
  refine wpAny_load' (Heap.get?_push_of_some _ (Heap.get?_push_of_some _ e)) ?_
  rw [ed]
  dsimp only
  rw [nd]
  wp_walk
  rw [Heap.size_push]
  exact q
/-- may it make one: no word against keywords here -/
theorem may_new (F : ExcBaseFacts B nid iid bmB) (T : ClsReads (model prog w) s.heap C mr nid) (kw : List (Str × Value)) (cB : mr.contains (.type B) = true) {Q : Unit → Shared → Prop} (q : Q () s) :
    wpAny (model prog w) A (checkBuiltinCall nid ⟨[.ref C], kw⟩) Q E s := by
  obtain ⟨hp, g, d, t, os⟩ := s
  have st := F.noStar
  unfold checkBuiltinCall
  simp only [F.newKind, F.newSplit, F.newRow]
  rw [if_pos (by decide)]
  refine wpAny_bind (T.typ.at ?_)
  rw [if_neg (by decide)]
  refine wpAny_bind ((T.sub _).at ?_)
  rw [cB, if_neg (by decide)]
  dsimp only
  refine wpAny_bind (T.base.at (wpAny_bind (T.made.at ?_)))
  dsimp only
  rw [bne_self_eq_false, if_neg (by decide)]
  unfold Bind.checkArgs
  wp_walk
  exact q
/-- the class itself called: type.__call__ asks nothing of keywords -/
theorem may_call (T : ClsReads (model prog w) s.heap C mr nid) (kw : List (Str × Value)) {Q : Unit → Shared → Prop} (q : Q () s) :
    wpAny (model prog w) A (checkBuiltinCall "type.__call__" ⟨[.ref C], kw⟩) Q E s := by
  obtain ⟨hp, g, d, t, os⟩ := s
  obtain ⟨o, c, e, ec, ed, nd⟩ := T.at_
  have ty : (⟨hp, g, d, t, os⟩ : Shared).TypeIs (.ref C) "type" := ⟨o, e, ec⟩
  have f3 := tc_sub
  unfold checkBuiltinCall
  simp only [tc_kind, tc_split]
  have inst : ∀ {P : Bool → Shared → Prop}, P true ⟨hp, g, d, t, os⟩ → wpAny (model prog w) A (isInstance (.ref C) (.type "type")) P E ⟨hp, g, d, t, os⟩ := fun y => by
    unfold isInstance
    wp_walk
    exact y
  refine wpAny_bind (inst ?_)
  rw [if_neg (by decide)]
  unfold Bind.checkArgs
  wp_walk
  exact q
/-- type.__call__: the new one, then its own __init__ with the keywords -/
theorem type_call_kw (F : ExcBaseFacts B nid iid bmB) (T : ClsReads (model prog w) s.heap C mr nid) (kw : List (Str × Value)) {fI : Addr} (cB : mr.contains (.type B) = true) (cA : mr.contains (.type "AttributeError") = false) (cN : mr.contains (.type "NameError") = false)
    (cC : mr.contains (.ref C) = true) (li : PySem.W.Looks (model prog w) s.heap (typeLookup (.ref C) "__init__") (some (.ref fI))) (lb : ∀ me, PySem.W.Looks (model prog w) s.heap (bindSpecial (.ref fI) me) (.ref fI, [me])) {Q : Fin → Shared → Prop}
    (q : codeAny (model prog w) A (.call (.ref fI) ⟨[.ref (s.heap.objs.size + 1)], kw⟩) (fun r s' => match r with | .ok (.ret v) => v = .none ∧ Q (.done (.ret (.ref (s.heap.objs.size + 1)))) s' | .ok _ => False | .error e => E e s')
      { s with heap := (s.heap.push (PySem.W.kdv_tup [])).push (PySem.HandSPX.excO C s.heap.objs.size) }) :
    wpAny (model prog w) A (Builtin.«type.__call__» ⟨[.ref C], kw⟩) Q E s := by
  have ne : mr.isEmpty = false := by cases mr with
    | nil => cases cC
    | cons _ _ => rfl
  obtain ⟨hp, g, d, t, os⟩ := s
  unfold Builtin.«type.__call__»
  dsimp only
  rw [if_neg (by intro z; cases z)]
  refine wpAny_bind (T.mro.at ?_)
  rw [ne, if_neg (by decide)]
  refine wpAny_bind (T.made.at ?_)
  dsimp only
  refine wpAny_bind (wpAny_pure (wpAny_bind (wpAny_holding (wpAny_call (codeAny_call_builtin_code (Code.quiet_builtin _ F.quiet) (may_new F T kw cB (new_kw F T kw cB cA cN ?_)))))))
  have up : ∀ b o, hp.get? b = some o → ((hp.push (PySem.W.kdv_tup [])).push (PySem.HandSPX.excO C hp.objs.size)).get? b = some o := fun _ _ z => Heap.get?_push_of_some _ (Heap.get?_push_of_some _ z)
  have new : ((hp.push (PySem.W.kdv_tup [])).push (PySem.HandSPX.excO C hp.objs.size)).get? (hp.objs.size + 1) = some (PySem.HandSPX.excO C hp.objs.size) := by heap_get
  dsimp only at q ⊢
  have inst : ∀ {P : Bool → Shared → Prop}, P true ⟨(hp.push (PySem.W.kdv_tup [])).push (PySem.HandSPX.excO C hp.objs.size), g, d, t, os⟩ →
      wpAny (model prog w) A (isInstance (.ref (hp.objs.size + 1)) (.ref C)) P E ⟨(hp.push (PySem.W.kdv_tup [])).push (PySem.HandSPX.excO C hp.objs.size), g, d, t, os⟩ := fun y => by
    unfold isInstance
    refine wpAny_bind ?_
    wp_walk
    exact T.sub (.ref C) A _ E _ up (by rw [cC]; exact y)
  refine wpAny_bind (inst ?_)
  rw [if_neg (by decide)]
  refine wpAny_bind (wpAny_holding ?_)
  unfold callSpecial? specialOf
  wp_walk
  refine li A _ E _ up (wpAny_holding (wpAny_bind (lb _ A _ E _ up (wpAny_bind (wpAny_call (codeAny_mono q fun r s1 z => ?_))))))
  match r, z with
  | .ok (.ret v), z =>
    obtain ⟨rfl, z⟩ := z
    refine wpAny_pure ?_
    dsimp only
    rw [if_neg (by decide)]
    exact wpAny_pure z
  | .error x, z => exact z
/-- C(k = v, ..) -/
theorem call_kw (F : ExcBaseFacts B nid iid bmB) (T : ClsReads (model prog w) s.heap C mr nid) (kw : List (Str × Value)) {fI : Addr} (cB : mr.contains (.type B) = true) (cA : mr.contains (.type "AttributeError") = false) (cN : mr.contains (.type "NameError") = false)
    (cC : mr.contains (.ref C) = true) (li : PySem.W.Looks (model prog w) s.heap (typeLookup (.ref C) "__init__") (some (.ref fI))) (lb : ∀ me, PySem.W.Looks (model prog w) s.heap (bindSpecial (.ref fI) me) (.ref fI, [me]))
    (q : codeAny (model prog w) (A.under (.builtin "type.__call__" ⟨[.ref C], kw⟩)) (.call (.ref fI) ⟨[.ref (s.heap.objs.size + 1)], kw⟩) (PySem.W.InitBack (s.heap.objs.size + 1) R)
      { s with heap := (s.heap.push (PySem.W.kdv_tup [])).push (PySem.HandSPX.excO C s.heap.objs.size) }) :
    codeAny (model prog w) A (.call (.ref C) ⟨[], kw⟩) R s := by
  obtain ⟨hp, g, d, t, os⟩ := s
  obtain ⟨o, c, e, ec, ed, nd⟩ := T.at_
  have ty : (⟨hp, g, d, t, os⟩ : Shared).TypeIs (.ref C) "type" := ⟨o, e, ec⟩
  have f1 := tc_lookup
  have f2 := tc_bind (.ref C)
  refine codeAny_of_tree ?_
  show wpAny _ _ (callAny (.ref C) ⟨[], kw⟩) _ _ _
  unfold callAny
  refine wpAny_bind (wpAny_load' e ?_)
  rw [ed]
  dsimp only
  unfold callAny.viaDunder specialOf
  wp_walk
  refine ⟨rfl, codeAny_call_builtin_at (Code.quiet_builtin _ (by decide +kernel)) entry_typeCall (may_call T kw (type_call_kw F T kw cB cA cN cC li lb (codeAny_mono q fun r s1 z => ?_)))⟩
  match r, z with
  | .ok (.ret v), z => exact z
  | .error x, z => exact z
end
end El
namespace El
open PySem PySem.Spec PyProof.Rows L2
/-! ### an exception of the text's own, made by keyword alone -/
structure OwnK (P : Program) (w : World) (K : PySem.W.Frag) (mg : Str → Option Value) (base : Heap) (x : Str) (C : Addr) : Prop where
  ex : ∃ (fI : Addr) (fd : FuncData), Own K mg x C fI ∧ FnOk P w K mg base CX0 1 fI fd ["self", "what"] (sp_initW K) ∧ ∀ (s : Shared) (me u : Value), BindsTo s fd ⟨[me], [(("what" : Str), u)]⟩ [(("self" : Str), me), (("what" : Str), u)]
section
variable {X : Cx} {C : Addr} {x : Str} {kws : List Keyword} {ta : TA} {p pos : Pos}
theorem pmk_kw (O : OwnK X.prog X.w X.K X.mg X.base x C) (hr : Room 2 X.A) (hg : Gl X x) (ha : PK X kws ta) (hdb : (x == ("__debug__" : Str)) = false := by decide)
    (named : (backToKw pos (keywordEach kws X.env)).all (·.1.isSome) = true := by rfl) (names : (backToKw pos (keywordEach kws X.env)).filterMap (·.1) = [("what" : Str)] := by rfl)
    (bare : ((backTo pos (starEach [] X.env)).any (·.1) || (backToKw pos (keywordEach kws X.env)).any (·.1.isNone)) = false := by rfl) :
    PMk X (.Call (.Name x p) [] kws pos) (fun σ H Q => ta σ H fun vs H1 => ∃ v, vs = [v] ∧ RdW H1 v ∧ ∀ (a d : Addr), H1 a = none → H1 d = none → d ≠ a → Q (.ref C) (some d) (upd H1 d (.xd [(("what" : Str), v)]))) := by
  obtain ⟨fI, fd, T, F1, bs⟩ := O.ex
  intro pins s σ H Q I h
  obtain ⟨nm, q, N, bl, bm, sn, sub, ab, col, dd, k0, k1, k2, k3, k5, hC, hbm⟩ := T.o.cls
  apply wpAny_Call_Name_kw
  apply ld_glob I hg T.g _ hdb
  refine PySem.W.callWith_KW0 (h₀ := X.base) I.ok.mod.kin T.o.kC named ?_ bare
  refine wpAny_mono (ha.run pos pins s σ H _ I h) (fun ws s1 got => ?_) fun _ _ err => err
  obtain ⟨zs, H1, I1, rz, v, rfl, rv, q1⟩ := got
  refine ⟨I1.kIn, ?_⟩
  rw [names]
  obtain ⟨u, rfl, ru⟩ : ∃ u, ws = [u] ∧ RelV v u := by
    cases rz with
    | cons a b => cases b; exact ⟨_, rfl, a⟩
  show wpAny _ _ (call (.ref C) [] [(("what" : Str), u)]) _ _ _
  have cls := I1.kIn _ _ hC
  have R := reads_of (M := model X.prog X.w) cls
  have n1 : H1 (s1.heap.objs.size + 1) = none := I1.hok.fresh (Nat.le_succ _)
  have tB : (Value.ref C :: bm).contains (.type "ValueError") = true := by rw [List.contains_cons, PySem.HandSPX.refsVE_contains "ValueError" bm hbm]; rfl
  have tA : (Value.ref C :: bm).contains (.type "AttributeError") = false := by rw [List.contains_cons, PySem.HandSPX.refsVE_contains "AttributeError" bm hbm]; rfl
  have tN : (Value.ref C :: bm).contains (.type "NameError") = false := by rw [List.contains_cons, PySem.HandSPX.refsVE_contains "NameError" bm hbm]; rfl
  have up : ∀ b o, s1.heap.get? b = some o → ((s1.heap.push (PySem.W.kdv_tup [])).push (PySem.HandSPX.excO C s1.heap.objs.size)).get? b = some o := fun _ _ z => Heap.get?_push_of_some _ (Heap.get?_push_of_some _ z)
  have new : ((s1.heap.push (PySem.W.kdv_tup [])).push (PySem.HandSPX.excO C s1.heap.objs.size)).get? (s1.heap.objs.size + 1) = some (PySem.HandSPX.excO C s1.heap.objs.size) := by heap_get
  have I2 : Inv X pins σ (upd H1 (s1.heap.objs.size + 1) (exo (s1.heap.objs.size + 1) C none)) { s1 with heap := (s1.heap.push (PySem.W.kdv_tup [])).push (PySem.HandSPX.excO C s1.heap.objs.size) } :=
    I1.laid (t' := s1.toks) (a := s1.heap.objs.size + 1) (o := exo (s1.heap.objs.size + 1) C none) up (Nat.le_succ _) (exo_ok new)
  refine wpAny_call (call_kw F.excBase_ValueError R _ tB tA tN (by simp) (PySem.W.looks_findIn I1.kIn T.iC) (fun me => PySem.W.bind_fn I1.kIn me T.tI) ?_)
  refine codeAny_mono (F1.run _ X.stack _ _ ⟨[.ref (s1.heap.objs.size + 1)], [(("what" : Str), u)]⟩ [.ref (s1.heap.objs.size + 1), u] [.ref (s1.heap.objs.size + 1), v] (fun y H2 => y = .non ∧ ∃ d : Addr, H2 (s1.heap.objs.size + 1) = some (exo (s1.heap.objs.size + 1) C (some d)) ∧ H2 d = some (exd d [(("what" : Str), v)]) ∧ H1 d = none ∧ Q (.ref C) (some d) (upd (del H2 (s1.heap.objs.size + 1)) d (.xd [(("what" : Str), v)]))) (fun _ _ _ => False)
    (hr.make C [] _) (I2.env0.make C [] _) (bs _ _ _) (.cons rfl (.cons ru .nil)) ?_) fun r s2 told => ?_
  · refine ⟨_, C, v, rfl, T.o, T.no, upd_same, rv.same (same_new n1), fun d nd da => ⟨rfl, d, by rw [upd_same], by rw [upd_ne da, upd_same], by rw [upd_ne da] at nd; exact nd, ?_⟩⟩
    rw [mk_heap n1 da]
    rw [upd_ne da] at nd
    exact q1 _ d n1 nd da
  · match r, told with
    | .ok (.ret y), told =>
      obtain ⟨v2, H2, os2, bare2, un2, hok2, ry, ey, d, ea, ed, nd, q2⟩ := told
      subst ey
      obtain ⟨hp2, g2, d2, t2, os3⟩ := s2
      obtain ⟨hp1, g1, d1, t1, os1⟩ := s1
      exact ⟨ry, mk_end (raises_own T.o.exC T.o.tyC) I1 (Nat.le_succ _) up un2 hok2 os2 bare2 ea ed nd q2⟩
    | .error e, told => exact pass0 pins σ _ _ e s2 I2 told
/-- the keywords' values in one run, told of by what they are known to be -/
theorem pk_on {σ : L2.St} {H : Hp} {Q : List V → Hp → Prop} (ha : PK X kws ta) (h : ta σ H Q) : PK X kws (fun σ1 H1 Q1 => σ1 = σ ∧ H1 = H ∧ ∀ vs H2, Q vs H2 → Q1 vs H2) :=
  ⟨fun pos pins s σ1 H1 Q1 I ⟨e1, e2, im⟩ => by
    subst e1 e2
    exact wpAny_mono (ha.run pos pins s _ _ _ I h) (fun us s2 ⟨vs, H2, I2, r, y⟩ => ⟨vs, H2, I2, r, im vs H2 y⟩) fun _ _ z => z⟩
theorem pe_errK (K : PySem.W.Frag) (mg : Str → Option Value) (O : OwnK X.prog X.w X.K X.mg X.base x C) (hr : Room 2 X.A) (ha : PK X kws ta) (hg : Gl X x) (eK : X.K = K := by rfl) (eM : X.mg = mg := by rfl) (hdb : (x == ("__debug__" : Str)) = false := by decide)
    (named : (backToKw pos (keywordEach kws X.env)).all (·.1.isSome) = true := by rfl) (names : (backToKw pos (keywordEach kws X.env)).filterMap (·.1) = [("what" : Str)] := by rfl)
    (bare : ((backTo pos (starEach [] X.env)).any (·.1) || (backToKw pos (keywordEach kws X.env)).any (·.1.isNone)) = false := by rfl) :
    PE X (.Call (.Name x p) [] kws pos) (tErr K mg C ta) := by
  subst eK eM
  have T := O.ex
  obtain ⟨fI, fd, T, _⟩ := T
  refine ⟨fun pins s σ H Q I h => ?_⟩
  refine (pe_made (pmk_kw O hr hg (pk_on ha h) hdb named names bare)).run pins s σ H Q I ⟨rfl, rfl, fun vs H1 ⟨v, ev, rv, q⟩ => ⟨v, ev, rv, fun a0 d _ nd _ a na => ?_⟩⟩
  have s1 := same_new (o := .xd [(("what" : Str), v)]) nd
  have s2 := same_new (o := Exc a (.ref C) (some d)) na
  exact q a _ (s1.trans s2) (s1.free na) ⟨x, fI, d, upd_same, s2 _ _ (show upd H1 d (.xd [(("what" : Str), v)]) d = _ from upd_same), T⟩
end
end El
namespace El
open PySem PySem.Spec PyProof.Rows L2
/-- a method as the top has written it -/
structure Ma (K : PySem.W.Frag) (C : Addr) (m q : Str) (ps : List Str) (st : Stmt) : Prop where
  ex : ∃ (f : Addr) (fd : FuncData), Fun K m q st f fd ∧ Meth K C m f ∧ Binds K fd ps []
/-- a method and what it promises -/
structure Mf (P : Program) (w : World) (K : PySem.W.Frag) (mg : Str → Option Value) (base : Heap) (k : Nat) (C : Addr) (m q : Str) (ps : List Str) (st : Stmt) (sp : Sp) : Prop where
  ex : ∃ (f : Addr) (fd : FuncData), Fun K m q st f fd ∧ Meth K C m f ∧ Binds K fd ps [] ∧ FnOk P w K mg base CX0 k f fd ps sp
theorem Ma.mf {P : Program} {w : World} {K : PySem.W.Frag} {mg : Str → Option Value} {base : Heap} {k : Nat} {C : Addr} {m q : Str} {ps : List Str} {st : Stmt} {sp : Sp} (A : Ma K C m q ps st)
    (h : ∀ f fd, Fun K m q st f fd → FnOk P w K mg base CX0 k f fd ps sp) : Mf P w K mg base k C m q ps st sp := by
  obtain ⟨f, fd, F, M, b⟩ := A.ex
  exact ⟨f, fd, F, M, b, h f fd F⟩
section
variable {X : Cx} {k : Nat} {C : Addr} {m q : Str} {st : Stmt} {ps : List Str} {sp : Sp} {pos apos : Pos} {o e : Expr} {es : List Expr} {ta : TE} {t : TA}
/-- o.m(e, ..) -/
theorem pe_mf {pl : Sem Bool} (D : Mf X.prog X.w X.K X.mg X.base k C m q ps st sp) (c : Cls X.K C) (hr : Room k X.A) (he : PE X o ta) (ha : PA X (e :: es) t)
    (hst : starEach (e :: es) X.env = (false, eval e X.env) :: starEach es X.env := by rfl) (hpl : (backTo pos (starEach es X.env)).any (·.1) = false := by rfl)
    (ht : eval (.Call (.Attribute o m apos) (e :: es) [] pos) X.env = (do
      let ov ← eval o X.env
      standAt apos.atName
      let (f, first) ← holding [ov] (getMethod ov m pl)
      callWith pos f first (backTo pos (starEach (e :: es) X.env)) (backToKw pos (keywordEach [] X.env))) := by rfl) :
    PE X (.Call (.Attribute o m apos) (e :: es) [] pos) (tMeth C m sp [] E0 ta t) := by
  obtain ⟨f, fd, _, M, b, F⟩ := D.ex
  exact pe_meth (pl := pl) he c M F hr b .nil pass0 ha hst hpl ht
/-- o.m() -/
theorem pe_mf0 {pl : Sem Bool} (D : Mf X.prog X.w X.K X.mg X.base k C m q ps st sp) (c : Cls X.K C) (hr : Room k X.A) (he : PE X o ta)
    (ht : eval (.Call (.Attribute o m apos) [] [] pos) X.env = (do
      let ov ← eval o X.env
      standAt apos.atName
      let (f, first) ← holding [ov] (getMethod ov m pl)
      callWith pos f first (backTo pos (starEach [] X.env)) (backToKw pos (keywordEach [] X.env))) := by rfl) :
    PE X (.Call (.Attribute o m apos) [] [] pos) (tMeth C m sp [] E0 ta tNil) := by
  obtain ⟨f, fd, _, M, b, F⟩ := D.ex
  exact pe_meth0 (pl := pl) he c M F hr b .nil pass0 ht
/-- the reading of o.m(k = v, ..): the values in the order of g, behind the object -/
def tMethW (C : Addr) (m : Str) (n : Nat) (sp : Sp) (g : List V → List V) (ta : TE) (tk : TA) : TE := fun σ H Q => ta σ H fun x H1 => ∃ a dx fs, x = .ref a ∧ H1 a = some (.ins C dx fs) ∧ fs.lookup m = none ∧
  tk σ H1 fun zs H2 => zs.length = n ∧ sp (x :: g zs) H2 Q E0
theorem pe_mfK {kws : List Keyword} {tk : TA} {pl : Sem Bool} (D : Mf X.prog X.w X.K X.mg X.base k C m q ps st sp) (c : Cls X.K C) (ks : List Str) (g : {α : Type} → List α → List α) (hr : Room k X.A) (he : PE X o ta) (hkw : PK X kws tk)
    (hb : ∀ (kV doc pm : Value) (an : Option Addr) (cdv ct : Value) (u : Value) (ws : List Value), ws.length = ks.length → bindArgs (PySem.W.fnOf m q (defArgs st) (defBody st) (defScope st) .none kV doc pm an cdv ct) ⟨[u], ks.zip ws⟩ = pure (ps.zip (u :: g ws)))
    (hrel : ∀ {zs : List V} {ws : List Value}, Vals zs ws → Vals (g zs) (g ws))
    (hall : (backToKw pos (keywordEach kws X.env)).all (·.1.isSome) = true := by rfl) (hks : (backToKw pos (keywordEach kws X.env)).filterMap (·.1) = ks := by rfl)
    (hpl : ((backTo pos (starEach [] X.env)).any (·.1) || (backToKw pos (keywordEach kws X.env)).any (·.1.isNone)) = false := by rfl)
    (ht : eval (.Call (.Attribute o m apos) [] kws pos) X.env = (do
      let ov ← eval o X.env
      standAt apos.atName
      let (f, first) ← holding [ov] (getMethod ov m pl)
      callWith pos f first (backTo pos (starEach [] X.env)) (backToKw pos (keywordEach kws X.env))) := by rfl) :
    PE X (.Call (.Attribute o m apos) [] kws pos) (tMethW C m ks.length sp (fun zs => g zs) ta tk) := by
  obtain ⟨f, fd, F, M, b, G⟩ := D.ex
  have KB : KBn X.K fd ps 1 ks (fun us ws => us ++ g ws) (fun vs zs => vs ++ g zs) := by
    obtain ⟨oc, od, kV, doc, pm, an, cdv, ct, osl, rfl, lk, hcd⟩ := F.ex
    refine ⟨fun s us ws hK l1 l2 => ?_, fun {vs us zs ws} r rz => Vals.append r (hrel rz)⟩
    match us, l1 with
    | [u], _ => exact .of_eq (hb kV doc pm an cdv ct u ws l2)
  refine ⟨fun pins s σ H Q I h => ?_⟩
  refine PySem.W.methodCall_KW (pl := pl) (thn (he.run pins s σ H _ I h) fun u s1 ⟨x, H1, I1, rx, a, dx, fs, ex, ea, l, q⟩ => ?_) ht
  subst ex
  obtain rfl : u = Value.ref a := rx
  refine getmeth_ok I1 ea c M l ?_
  refine PySem.W.callWith_KW0 (first := [.ref a]) (h₀ := X.base) I.ok.mod.kin M.kp hall ?_ hpl
  refine thn (hkw.run pos pins s1 σ H1 _ I1 q) fun ws s2 ⟨zs, H2, I2, rz, l2, q2⟩ => ⟨I2.kIn, ?_⟩
  rw [hks]
  exact run_fnN (us := [.ref a]) (vs := [.ref a]) G hr KB pass0 I2 (.cons rfl .nil) rz rfl l2 q2
end
/-! ### what an Inn looks like between two calls -/
theorem npr : ¬ (("_patience_of" : Str) = "_rooms") := by decide +kernel
/-- its fields in the order in which they are set -/
def iflds (d o : Addr) : List (Str × V) := putF "_rooms" (.ref o) (putF "_patience_of" (.ref d) [])
theorem iflds_p (d o : Addr) : (iflds d o).lookup ("_patience_of" : Str) = some (.ref d) := by
  unfold iflds
  rw [lookup_putF, if_neg npr, lookup_putF, if_pos rfl]
theorem iflds_r (d o : Addr) : (iflds d o).lookup ("_rooms" : Str) = some (.ref o) := by
  unfold iflds
  rw [lookup_putF, if_pos rfl]
theorem iflds_no (d o : Addr) {m : Str} (h1 : ¬ m = "_rooms") (h2 : ¬ m = "_patience_of") : (iflds d o).lookup m = none := by
  unfold iflds
  rw [lookup_putF, if_neg h1, lookup_putF, if_neg h2]
  rfl
/-- what of the text the class has -/
structure InnT (K : PySem.W.Frag) (mg : Str → Option Value) (C : Addr) : Prop where
  cl : Cls K C
  nP : NoAttr K C "_patience_of"
  nR : NoAttr K C "_rooms"
  mgC : mg "Inn" = some (.ref C)
/-- an Inn at p: the guests gs in the order in which they came, the rooms rs; all it owns lies in B -/
structure InnAt (C : Addr) (H : Hp) (B : Addr → Prop) (p d o : Addr) (ts : List Addr) (gs : List (Int × Int)) (rs : List (List Int)) : Prop where
  ob : ∃ dx, H p = some (.ins C dx (iflds d o))
  dc : H d = some (.dK (pks gs))
  rm : RmsAt H B o ts rs
  bp : B p
  bd : B d
theorem InnAt.keep {C : Addr} {H H' : Hp} {B : Addr → Prop} {p d o : Addr} {ts : List Addr} {gs : List (Int × Int)} {rs : List (List Int)} (h : InnAt C H B p d o ts gs rs) (k : Kp B H H') : InnAt C H' B p d o ts gs rs := by
  obtain ⟨⟨dx, e⟩, dc, rm, bp, bd⟩ := h
  exact ⟨⟨dx, k _ _ bp e⟩, k _ _ bd dc, rm.keep k, bp, bd⟩
theorem InnAt.same {C : Addr} {H H' : Hp} {B : Addr → Prop} {p d o : Addr} {ts : List Addr} {gs : List (Int × Int)} {rs : List (List Int)} (h : InnAt C H B p d o ts gs rs) (k : Same H H') : InnAt C H' B p d o ts gs rs := h.keep (.of k)
theorem InnAt.pd {C : Addr} {H : Hp} {B : Addr → Prop} {p d o : Addr} {ts : List Addr} {gs : List (Int × Int)} {rs : List (List Int)} (h : InnAt C H B p d o ts gs rs) : p ≠ d := fun z => by
  obtain ⟨dx, e⟩ := h.ob
  rw [z, h.dc] at e
  cases e
theorem InnAt.po {C : Addr} {H : Hp} {B : Addr → Prop} {p d o : Addr} {ts : List Addr} {gs : List (Int × Int)} {rs : List (List Int)} (h : InnAt C H B p d o ts gs rs) : p ≠ o := fun z => by
  obtain ⟨dx, e⟩ := h.ob
  rw [z, h.rm.top] at e
  cases e
theorem InnAt.od {C : Addr} {H : Hp} {B : Addr → Prop} {p d o : Addr} {ts : List Addr} {gs : List (Int × Int)} {rs : List (List Int)} (h : InnAt C H B p d o ts gs rs) : o ≠ d := fun z => by
  have e := h.dc
  rw [← z, h.rm.top] at e
  cases e
theorem InnAt.room {C : Addr} {H : Hp} {B : Addr → Prop} {p d o : Addr} {ts : List Addr} {gs : List (Int × Int)} {rs : List (List Int)} (h : InnAt C H B p d o ts gs rs) {t : Addr} (m : t ∈ ts) : t ≠ p ∧ t ≠ d := by
  obtain ⟨i, e⟩ := List.mem_iff_getElem?.mp m
  have hl := at_lt e
  rw [h.rm.len] at hl
  obtain ⟨r, er⟩ := at_some hl
  have e1 := h.rm.at' i t r e er
  refine ⟨fun z => ?_, fun z => ?_⟩
  · obtain ⟨dx, e2⟩ := h.ob
    rw [← z, e1] at e2
    cases e2
  · have e2 := h.dc
    rw [← z, e1] at e2
    cases e2
/-- its rooms alone have changed -/
theorem InnAt.rooms {C : Addr} {H H' : Hp} {B : Addr → Prop} {p d o : Addr} {ts ts' : List Addr} {gs : List (Int × Int)} {rs rs' : List (List Int)} (h : InnAt C H B p d o ts gs rs) (k : Kp (fun b => b ≠ o ∧ b ∉ ts) H H') (r : RmsAt H' B o ts' rs') : InnAt C H' B p d o ts' gs rs' := by
  obtain ⟨dx, e⟩ := h.ob
  exact ⟨⟨dx, k _ _ ⟨h.po, fun m => (h.room m).1 rfl⟩ e⟩, k _ _ ⟨h.od.symm, fun m => (h.room m).2 rfl⟩ h.dc, r, h.bp, h.bd⟩
/-- guest a has entered room i -/
def enterR (rs : List (List Int)) (i : Nat) (a : Int) : List (List Int) := if i < rs.length then rs.set i (down (rs.getD i [] ++ [a])) else rs ++ [[a]]
theorem enterR_old {rs : List (List Int)} {i : Nat} {r : List Int} (a : Int) (h : rs[i]? = some r) : enterR rs i a = rs.set i (down (r ++ [a])) := by
  unfold enterR
  rw [if_pos (at_lt h), List.getD_eq_getElem?_getD, h]
  rfl
theorem enterR_new (rs : List (List Int)) (a : Int) : enterR rs rs.length a = rs ++ [[a]] := if_neg (Nat.lt_irrefl _)
/-- another list in the place of one -/
theorem RmsAt.put {H : Hp} {B : Addr → Prop} {o q : Addr} {ts : List Addr} {rs : List (List Int)} {i : Nat} {r : List Int} (h : RmsAt H B o ts rs) (hi : i < rs.length) (e : H q = some (.lst (r.map V.int))) (bq : B q) (nq : q ∉ ts) (qo : q ≠ o) :
    RmsAt (upd H o (.lst ((ts.set i q).map V.ref))) B o (ts.set i q) (rs.set i r) := by
  have inn : ∀ t ∈ ts.set i q, t = q ∨ t ∈ ts := fun t m => (List.mem_or_eq_of_mem_set m).symm
  have hn : ∀ t ∈ ts.set i q, t ≠ o := fun t m z => by
    rcases inn t m with y | y
    · exact qo (y ▸ z)
    · exact h.no (z ▸ y)
  refine ⟨upd_same, h.bo, ?_, fun m => hn o m rfl, ?_, fun j t x e1 e2 => ?_, fun t m => ?_⟩
  · rw [List.nodup_iff_pairwise_ne, List.pairwise_iff_getElem]
    intro a b ha hb hab
    rw [List.length_set] at ha hb
    rw [List.getElem_set, List.getElem_set]
    by_cases h1 : i = a
    · by_cases h2 : i = b
      · omega
      · rw [if_pos h1, if_neg h2]
        exact fun z => nq (z ▸ List.getElem_mem hb)
    · by_cases h2 : i = b
      · rw [if_neg h1, if_pos h2]
        exact fun z => nq (z ▸ List.getElem_mem ha)
      · rw [if_neg h1, if_neg h2]
        exact List.pairwise_iff_getElem.mp (List.nodup_iff_pairwise_ne.mp h.nd) a b ha hb hab
  · rw [List.length_set, List.length_set]
    exact h.len
  · rw [upd_ne (hn t (List.mem_of_getElem? e1))]
    by_cases hj : i = j
    · subst hj
      rw [List.getElem?_set_self (by rw [h.len]; exact hi)] at e1
      rw [List.getElem?_set_self hi] at e2
      obtain rfl : q = t := Option.some.inj e1
      obtain rfl : r = x := Option.some.inj e2
      exact e
    · rw [List.getElem?_set_ne hj] at e1 e2
      exact h.at' j t x e1 e2
  · rcases inn t m with rfl | m
    · exact bq
    · exact h.b t m
theorem RmsAt.lives {H : Hp} {B : Addr → Prop} {o : Addr} {ts : List Addr} {rs : List (List Int)} (h : RmsAt H B o ts rs) {t : Addr} (m : t ∈ ts) : ∃ r : List Int, H t = some (.lst (r.map V.int)) := by
  obtain ⟨i, e⟩ := List.mem_iff_getElem?.mp m
  have hl := at_lt e
  rw [h.len] at hl
  obtain ⟨r, er⟩ := at_some hl
  exact ⟨r, h.at' i t r e er⟩
theorem RmsAt.reL {H : Hp} {B B' : Addr → Prop} {o : Addr} {ts : List Addr} {rs : List (List Int)} (h : RmsAt H B o ts rs) (k : ∀ b, (∃ v, H b = some v) → B b → B' b) : RmsAt H B' o ts rs :=
  ⟨h.top, k _ ⟨_, h.top⟩ h.bo, h.nd, h.no, h.len, h.at', fun t m => k _ (let ⟨r, e⟩ := h.lives m; ⟨_, e⟩) (h.b t m)⟩
theorem InnAt.reB {C : Addr} {H : Hp} {B B' : Addr → Prop} {p d o : Addr} {ts : List Addr} {gs : List (Int × Int)} {rs : List (List Int)} (h : InnAt C H B p d o ts gs rs) (k : ∀ b, (∃ v, H b = some v) → B b → B' b) : InnAt C H B' p d o ts gs rs :=
  ⟨h.ob, h.dc, h.rm.reL k, k _ (let ⟨dx, e⟩ := h.ob; ⟨_, e⟩) h.bp, k _ ⟨_, h.dc⟩ h.bd⟩
theorem ifYes {c : Bool} {A B : Prop} (hc : c = true) (h : A) : if c = true then A else B := by
  subst hc
  exact iteT h
theorem ifNo {c : Bool} {A B : Prop} (hc : c = false) (h : B) : if c = true then A else B := by
  subst hc
  exact iteF h
end El
namespace El
open PySem PySem.Spec PyProof.Rows L2
/-! ### a method that refuses some things and answers others -/
structure MfX (P : Program) (w : World) (K : PySem.W.Frag) (mg : Str → Option Value) (base : Heap) (k : Nat) (C : Addr) (m q : Str) (ps : List Str) (st : Stmt) (sp : Sp) : Prop where
  ex : ∃ (f : Addr) (fd : FuncData), Fun K m q st f fd ∧ Meth K C m f ∧ Binds K fd ps [] ∧ FnOk P w K mg base (L2.CX P w) k f fd ps sp
section
variable {P : Program} {w : World} {K : PySem.W.Frag} {mg : Str → Option Value} {base : Heap} {j k : Nat} {C : Addr} {m q : Str} {ps : List Str} {st : Stmt} {sp sp1 sp2 : Sp}
theorem Ma.mfx (A : Ma K C m q ps st) (h : ∀ f fd, Fun K m q st f fd → FnOk P w K mg base (L2.CX P w) k f fd ps sp) : MfX P w K mg base k C m q ps st sp :=
  let ⟨f, fd, F, M, b⟩ := A.ex
  ⟨f, fd, F, M, b, h f fd F⟩
theorem Mf.up (G : Mf P w K mg base j C m q ps st sp) (h : j ≤ k) : Mf P w K mg base k C m q ps st sp :=
  let ⟨f, fd, F, M, b, G1⟩ := G.ex
  ⟨f, fd, F, M, b, G1.mono h⟩
theorem fun_one {f : Addr} {fd fd' : FuncData} (F : Fun K m q st f fd) (F' : Fun K m q st f fd') : fd = fd' := by
  obtain ⟨_, _, _, _, _, _, _, _, _, rfl, l1, _⟩ := F.ex
  obtain ⟨_, _, _, _, _, _, _, _, _, rfl, l2, _⟩ := F'.ex
  exact Data.func.inj (Obj.mk.inj (Option.some.inj (l1.symm.trans l2))).2.2.1
theorem Mf.orx (G : Mf P w K mg base j C m q ps st sp1) (B : MfX P w K mg base k C m q ps st sp2) (same : ∀ f f', Meth K C m f → Meth K C m f' → f = f') (h : j ≤ k) : MfX P w K mg base k C m q ps st (fun vs H Q E => sp1 vs H Q E0 ∨ sp2 vs H Q E) := by
  obtain ⟨f, fd, F, M, b, G1⟩ := G.ex
  obtain ⟨f', fd', F', M', _, B1⟩ := B.ex
  obtain rfl := same f f' M M'
  obtain rfl := fun_one F F'
  refine ⟨f, fd, F, M, b, fun vs H Q E z => z.elim (G1.len vs H Q E0) (B1.len vs H Q E), fun A outer s H args us vs Q E room ent bound vals want => want.elim (fun want => ?_) fun want => B1.run A outer s H args us vs Q E room ent bound vals want⟩
  refine codeAny_mono (G1.run A outer s H args us vs Q E0 (room.mono h) ent bound vals want) fun r s2 told => ?_
  match r, told with
  | .ok (.ret _), told => exact told
  | .error _, told => exact told.elim
end
section
variable {X : Cx} {k : Nat} {C : Addr} {m q : Str} {st : Stmt} {ps : List Str} {sp : Sp} {pos apos : Pos} {o e : Expr} {es : List Expr} {ta : TE} {t : TA} {W : WX}
/-- o.m(e, ..) of such a method, what it raises as W tells -/
def tMethS (C : Addr) (m : Str) (sp : Sp) (W : WX) (ta : TE) (t : TA) : TE := fun σ H Q => ta σ H fun x H1 => ∃ a dx fs, x = .ref a ∧ H1 a = some (.ins C dx fs) ∧ fs.lookup m = none ∧ t σ H1 fun vs H2 => sp (x :: vs) H2 Q (WE W σ)
theorem pe_mfS {pl : Sem Bool} (D : MfX X.prog X.w X.K X.mg X.base k C m q ps st sp) (c : Cls X.K C) (tk : Takes X W) (hr : Room k X.A) (he : PE X o ta) (ha : PA X (e :: es) t)
    (hst : starEach (e :: es) X.env = (false, eval e X.env) :: starEach es X.env := by rfl) (hpl : (backTo pos (starEach es X.env)).any (·.1) = false := by rfl)
    (ht : eval (.Call (.Attribute o m apos) (e :: es) [] pos) X.env = (do
      let ov ← eval o X.env
      standAt apos.atName
      let (f, first) ← holding [ov] (getMethod ov m pl)
      callWith pos f first (backTo pos (starEach (e :: es) X.env)) (backToKw pos (keywordEach [] X.env))) := by rfl) :
    PE X (.Call (.Attribute o m apos) (e :: es) [] pos) (tMethS C m sp W ta t) := by
  obtain ⟨f, fd, _, M, b, F⟩ := D.ex
  constructor
  intro pins s σ H Q I asks
  -- the object, then its method, then what it is given
  have given : ∀ (a : Addr) (H1 : Hp) (s1 : Shared), Inv X pins σ H1 s1 → (t σ H1 fun vs H2 => sp (.ref a :: vs) H2 Q (WE W σ)) → wpAny (model X.prog X.w) X.A (callWith pos (.ref f) [.ref a] (backTo pos (starEach (e :: es) X.env)) (backToKw pos (keywordEach [] X.env))) (EP X pins σ Q) X.xe s1 := by
    intro a H1 s1 I1 asks1
    apply PySem.W.callWith_K (h₀ := X.base) I.ok.mod.kin M.kp _ hst hpl
    exact wpAny_mono (ha.run pos pins s1 σ H1 _ I1 asks1) (fun us s2 ⟨vs, H2, I2, rel, q2⟩ => ⟨I2.kIn, run_fnS (us := .ref a :: us) (vs := .ref a :: vs) F hr b (passAt tk σ) I2 (.cons rfl rel) q2⟩) fun _ _ err => err
  apply PySem.W.methodCall_KW (pl := pl) _ ht
  refine wpAny_mono (he.run pins s σ H _ I asks) (fun u s1 got => ?_) fun _ _ err => err
  obtain ⟨_, H1, I1, rel, a, dx, fs, rfl, ea, free, rest⟩ := got
  obtain rfl : u = Value.ref a := rel
  exact getmeth_ok I1 ea c M free (given a H1 s1 I1 rest)
end
end El
namespace El
/-- rooms in which somebody is on the way: x is to enter room i -/
def Mid (gs : List (Int × Int)) (rs : List (List Int)) (i : Nat) (x : Int × Int) : Prop :=
  ∃ (D : List (List Int)) (L L' : List (Int × Int)), rs = D ++ settleL L ∧ D.length = i ∧ Comes x L L' ∧ L'.Sublist (byAge gs) ∧ settle gs = D ++ settleL L'
theorem Comes.sub {x : Int × Int} {L L' : List (Int × Int)} (h : Comes x L L') : L.Sublist L' := by
  obtain ⟨pre, post, rfl, rfl⟩ := h
  exact (List.Sublist.refl pre).append (List.sublist_cons_self x post)
theorem Comes.mem {x : Int × Int} {L L' : List (Int × Int)} (h : Comes x L L') : x ∈ L' := by
  obtain ⟨pre, post, _, rfl⟩ := h
  simp
theorem Comes.has {x g : Int × Int} {L L' : List (Int × Int)} (h : Comes x L L') (m : g ∈ L) : g ∈ L' := h.sub.subset m
theorem Mid.start {gs : List (Int × Int)} {x : Int × Int} (F : Fit (gs ++ [x])) : Mid (gs ++ [x]) (settle gs) 0 x := by
  have p : (x :: gs).Perm (gs ++ [x]) := by
    have := List.perm_append_comm (l₁ := [x]) (l₂ := gs)
    exact this
  obtain ⟨pre, post, e1, e2⟩ := byAge_split (F.perm p)
  have e3 : byAge (gs ++ [x]) = pre ++ x :: post := by
    rw [← e1]
    exact (byAge_congr F p).symm
  refine ⟨[], byAge gs, byAge (gs ++ [x]), rfl, rfl, ⟨pre, post, e2, e3⟩, List.Sublist.refl _, rfl⟩
theorem Mid.first {gs : List (Int × Int)} {rs : List (List Int)} {i : Nat} {x : Int × Int} (F : Fit gs) (M : Mid gs rs i x) : i < (settle gs).length ∧ i ≤ rs.length ∧ rs.length ≤ 2 * gs.length ∧ (∀ r ∈ rs, r.length ≤ gs.length) ∧ x ∈ gs := by
  obtain ⟨D, L, L', e1, e2, c, s, e3⟩ := M
  have pos : ∀ g ∈ L', 0 ≤ g.2 := fun g m => F.pos g ((byAge_perm gs).mem_iff.mp (s.subset m))
  have ne : L' ≠ [] := fun z => by
    have := c.mem
    rw [z] at this
    cases this
  have l1 := s.length_le
  rw [byAge_length] at l1
  have l2 := c.sub.length_le
  have l3 := settleL_len (byAge gs)
  rw [byAge_length] at l3
  have l3' : (settle gs).length ≤ gs.length := l3
  have l4 := settleL_len L
  have l5 : (settle gs).length = D.length + (settleL L').length := by
    rw [e3, List.length_append]
  have l6 : 0 < (settleL L').length := by
    rw [settle_first ne pos, List.length_cons]
    omega
  refine ⟨by omega, by rw [e1, List.length_append]; omega, by rw [e1, List.length_append]; omega, fun r m => ?_, (byAge_perm gs).mem_iff.mp (s.subset c.mem)⟩
  rw [e1] at m
  rcases List.mem_append.mp m with m | m
  · have m' : r ∈ settleL (byAge gs) := by
      show r ∈ settle gs
      rw [e3]
      exact List.mem_append_left _ m
    have := settleL_room m'
    rw [byAge_length] at this
    exact this
  · have := settleL_room m
    omega
theorem Mid.step {gs : List (Int × Int)} {rs : List (List Int)} {i : Nat} {x : Int × Int} (F : Fit gs) (M : Mid gs rs i x) :
    ∃ E : List Int, (enterR rs i x.1)[i]? = some E ∧ E.length ≤ gs.length ∧ (∀ a ∈ E, a ∈ gs.map (·.1)) ∧ E.Nodup ∧
      ((eldUp gs E = none ∧ enterR rs i x.1 = settle gs) ∨ ∃ y : Int × Int, y.1 ∈ E ∧ eldUp gs E = some y.1 ∧ Mid gs ((enterR rs i x.1).set i (E.erase y.1)) (i + 1) y) := by
  obtain ⟨D, L, L', rfl, rfl, c, s, e3⟩ := M
  have mem : ∀ g ∈ L', g ∈ gs := fun g m => (byAge_perm gs).mem_iff.mp (s.subset m)
  obtain ⟨E, pE, dE, out⟩ := come_step F c s
  have e1 : enterR (D ++ settleL L) D.length x.1 = D ++ E :: settleL (r0 0 L) := by
    rw [settle_parts fun g m => F.pos g (mem g (c.has m))]
    by_cases h : L = []
    · rw [if_pos h]
      subst h
      have eE : E = [x.1] := List.perm_singleton.mp (pE.trans (.refl _))
      rw [List.append_nil, enterR_new, eE]
      rfl
    · rw [if_neg h]
      have er : (D ++ roomOf L :: settleL (r0 0 L))[D.length]? = some (roomOf L) := by
        rw [List.getElem?_append_right (Nat.le_refl _), Nat.sub_self]
        rfl
      have eE : E = down (roomOf L ++ [x.1]) := down_is (pE.trans (List.perm_append_comm (l₁ := [x.1]) (l₂ := roomOf L))) (dE.imp fun h => by omega)
      rw [enterR_old x.1 er, List.set_append_right _ _ (Nat.le_refl _), Nat.sub_self, ← eE]
      rfl
  have inE : ∀ a ∈ E, a ∈ gs.map (·.1) := fun a m => by
    rcases List.mem_cons.mp (pE.mem_iff.mp m) with rfl | m
    · exact List.mem_map_of_mem (mem x c.mem)
    · obtain ⟨g, hg, rfl⟩ := List.mem_map.mp m
      exact List.mem_map_of_mem (mem g (c.has ((g0_sub L 0).subset hg)))
  have ndE : E.Nodup := dE.imp fun h => by omega
  refine ⟨E, ?_, ?_, inE, ndE, ?_⟩
  · rw [e1, List.getElem?_append_right (Nat.le_refl _), Nat.sub_self]
    rfl
  · have := List.Nodup.length_le_of_subset ndE inE
    rw [List.length_map] at this
    exact this
  · rcases out with ⟨h1, h2⟩ | ⟨y, hy, m, h1, h2, h3⟩
    · exact .inl ⟨h1, by rw [e1, e3, h2]⟩
    · refine .inr ⟨y, m, h1, D ++ [E.erase y.1], r0 0 L, r0 0 L', ?_, by rw [List.length_append]; rfl, h3, (r0_sub L' 0).trans s, ?_⟩
      · rw [e1, List.set_append_right _ _ (Nat.le_refl _), Nat.sub_self, List.append_assoc]
        rfl
      · rw [e3, h2, List.append_assoc]
        rfl
/-- who came into which room, and the rooms then -/
def comeF : Nat → List (Int × Int) → List (List Int) → Nat → Int → List (Int × Int) × List (List Int)
  | 0, _, rs, _, _ => ([], rs)
  | n + 1, gs, rs, i, x =>
    match eldUp gs ((enterR rs i x).getD i []) with
    | none => ([(x, (i : Int))], enterR rs i x)
    | some y => ((x, (i : Int)) :: (comeF n gs ((enterR rs i x).set i (((enterR rs i x).getD i []).erase y)) (i + 1) y).1, (comeF n gs ((enterR rs i x).set i (((enterR rs i x).getD i []).erase y)) (i + 1) y).2)
theorem comeF_end {n : Nat} {gs : List (Int × Int)} {rs : List (List Int)} {i : Nat} {x : Int} {E : List Int} (e : (enterR rs i x)[i]? = some E) (h : eldUp gs E = none) : comeF (n + 1) gs rs i x = ([(x, (i : Int))], enterR rs i x) := by
  unfold comeF
  rw [List.getD_eq_getElem?_getD, e]
  show (match eldUp gs E with | none => _ | some y => _) = _
  rw [h]
theorem comeF_on {n : Nat} {gs : List (Int × Int)} {rs : List (List Int)} {i : Nat} {x y : Int} {E : List Int} (e : (enterR rs i x)[i]? = some E) (h : eldUp gs E = some y) :
    comeF (n + 1) gs rs i x = ((x, (i : Int)) :: (comeF n gs ((enterR rs i x).set i (E.erase y)) (i + 1) y).1, (comeF n gs ((enterR rs i x).set i (E.erase y)) (i + 1) y).2) := by
  rw [comeF]
  rw [List.getD_eq_getElem?_getD, e]
  show (match eldUp gs E with | none => _ | some y => _) = _
  rw [h]
  rfl
/-- the pairs told when x comes to gs -/
def comeT (gs : List (Int × Int)) (x : Int × Int) : List (Int × Int) := (comeF (settle (gs ++ [x])).length (gs ++ [x]) (settle gs) 0 x.1).1
end El
namespace El
/-! ### somebody goes home: who comes back, room by room -/
/-- how many of R are elder than z -/
def eldN (R : List Int) (z : Int) : Nat := (R.filter fun o => decide (z < o)).length
/-- z would bear it in R -/
def bearB (gs : List (Int × Int)) (R : List Int) (z : Int) : Bool := decide ((eldN R z : Int) ≤ pof gs z)
theorem eldN_lt {R : List Int} {o z : Int} (h : z < o) : eldN (o :: R) z = eldN R z + 1 := by
  unfold eldN
  rw [List.filter_cons, if_pos (decide_eq_true h)]
  rfl
theorem eldN_ge {R : List Int} {o z : Int} (h : ¬ z < o) : eldN (o :: R) z = eldN R z := by
  unfold eldN
  rw [List.filter_cons, if_neg (by simpa using h)]
theorem eldN_perm {R S : List Int} (p : R.Perm S) (z : Int) : eldN R z = eldN S z := (p.filter _).length_eq
theorem eldN_erase {R : List Int} {y z : Int} (h : ¬ z < y) : eldN (R.erase y) z = eldN R z := by
  by_cases m : y ∈ R
  · rw [eldN_perm (List.perm_cons_erase m) z, eldN_ge h]
  · rw [List.erase_of_not_mem m]
theorem eldN_le (R : List Int) (z : Int) : eldN R z ≤ R.length := List.length_filter_le _ _
/-- from the eldest on, no two of an age -/
def Desc (L : List (Int × Int)) : Prop := L.Pairwise fun g h => h.1 < g.1
theorem Desc.sub {L M : List (Int × Int)} (h : Desc M) (s : L.Sublist M) : Desc L := h.sublist s
theorem Desc.nd {L : List (Int × Int)} (h : Desc L) : (L.map (·.1)).Nodup := by
  rw [List.Nodup, List.pairwise_map]
  exact h.imp fun h => by omega
theorem Desc.down {L : List (Int × Int)} (h : Desc L) : (L.map (·.1)).Pairwise (· ≥ ·) := by
  rw [List.pairwise_map]
  exact h.imp fun h => by omega
theorem byAge_desc {gs : List (Int × Int)} (F : Fit gs) : Desc (byAge gs) := by
  have h1 := byAge_sorted gs
  have h2 : (byAge gs).Pairwise fun g h => g.1 ≠ h.1 := by
    have := ((byAge_perm gs).map (·.1)).nodup_iff.mpr F.nd
    rw [List.Nodup, List.pairwise_map] at this
    exact this
  exact (h1.and h2).imp fun h => by omega
/-- who went on has more elders there than they bear -/
theorem r0_bad : ∀ (L : List (Int × Int)) (n : Nat) (g : Int × Int), Desc L → g ∈ r0 n L → g.2 < ((n + eldN ((g0 n L).map (·.1)) g.1 : Nat) : Int)
  | [], _, _, _, m => by cases m
  | h :: L, n, g, d, m => by
    obtain ⟨d1, d2⟩ := List.pairwise_cons.mp d
    by_cases hp : (n : Int) ≤ h.2
    · rw [r0_yes hp] at m
      have := r0_bad L (n + 1) g d2 m
      rw [g0_yes hp, List.map_cons, eldN_lt (d1 g ((r0_sub L (n + 1)).subset m))]
      omega
    · rw [r0_no hp] at m
      rw [g0_no hp]
      rcases List.mem_cons.mp m with rfl | m
      · omega
      · exact r0_bad L n g d2 m
/-- who stays has not -/
theorem g0_good : ∀ (L : List (Int × Int)) (n : Nat) (g : Int × Int), Desc L → g ∈ g0 n L → ((n + eldN ((g0 n L).map (·.1)) g.1 : Nat) : Int) ≤ g.2
  | [], _, _, _, m => by cases m
  | h :: L, n, g, d, m => by
    obtain ⟨d1, d2⟩ := List.pairwise_cons.mp d
    by_cases hp : (n : Int) ≤ h.2
    · rw [g0_yes hp] at m ⊢
      rw [List.map_cons]
      rcases List.mem_cons.mp m with rfl | m
      · have e : eldN (g.1 :: (g0 (n + 1) L).map (·.1)) g.1 = 0 := by
          rw [eldN_ge (Int.lt_irrefl _)]
          unfold eldN
          rw [List.filter_eq_nil_iff.mpr fun o ho => ?_]
          · rfl
          · obtain ⟨k, hk, rfl⟩ := List.mem_map.mp ho
            have := d1 k ((g0_sub L (n + 1)).subset hk)
            simp
            omega
        rw [e]
        exact hp
      · have := g0_good L (n + 1) g d2 m
        rw [eldN_lt (d1 g ((g0_sub L (n + 1)).subset m))]
        omega
    · rw [g0_no hp] at m ⊢
      exact g0_good L n g d2 m
theorem g0_r0_perm : ∀ (L : List (Int × Int)) (n : Nat), (g0 n L ++ r0 n L).Perm L
  | [], _ => .nil
  | g :: L, n => by
    by_cases h : (n : Int) ≤ g.2
    · rw [g0_yes h, r0_yes h]
      exact (g0_r0_perm L (n + 1)).cons g
    · rw [g0_no h, r0_no h]
      exact List.perm_middle.trans ((g0_r0_perm L n).cons g)
theorem settleL_flat (L : List (Int × Int)) : (settleL L).flatten.Perm (L.map (·.1)) := by
  have := foldl_place_perm L []
  rw [List.flatten_nil, List.append_nil] at this
  exact this
/-- the rooms from the one on that somebody has left: who should be there are those of L -/
def After (L : List (Int × Int)) (X : List (List Int)) : Prop :=
  X = roomOf L :: settleL (r0 0 L) ∨ ∃ (y : Int × Int) (M : List (Int × Int)), X = (roomOf L).erase y.1 :: settleL M ∧ y ∈ g0 0 L ∧ Comes y (r0 0 L) M ∧ Desc M
theorem desc_eq {l m : List Int} (p : l.Perm m) (h1 : l.Pairwise (· ≥ ·)) (h2 : m.Pairwise (· ≥ ·)) : l = m := desc_uniq p h1 h2
theorem Comes.perm {x : Int × Int} {L L' : List (Int × Int)} (h : Comes x L L') : L'.Perm (x :: L) := by
  obtain ⟨pre, post, rfl, rfl⟩ := h
  exact List.perm_middle
theorem roomOf_desc {L : List (Int × Int)} (d : Desc L) : (roomOf L).Pairwise (· ≥ ·) := (d.sub (g0_sub L 0)).down
theorem roomOf_nd {L : List (Int × Int)} (d : Desc L) : (roomOf L).Nodup := (d.sub (g0_sub L 0)).nd
/-- x leaves the room it lives in -/
theorem leaves : ∀ (n : Nat) {x : Int × Int} {L L' : List (Int × Int)}, L'.length ≤ n → Comes x L L' → Desc L' → (∀ g ∈ L', 0 ≤ g.2) →
    ∃ (D : List (List Int)) (R : List Int) (T : List (List Int)) (J : List (Int × Int)), settleL L' = D ++ R :: T ∧ x.1 ∈ R ∧ settleL L = D ++ settleL J ∧ J.Sublist L ∧ After J (R.erase x.1 :: T)
  | 0, x, L, L', hl, h, _, _ => by
    obtain ⟨pre, post, _, rfl⟩ := h
    simp at hl
  | n + 1, x, L, L', hl, h, d, pos => by
    have ne : L' ≠ [] := fun z => by
      have := h.mem
      rw [z] at this
      cases this
    have dL : Desc L := d.sub h.sub
    have first := settle_first ne pos
    obtain ⟨E, pE, dE, out⟩ := enters h d
    have ndE : (E.map (·.1)).Nodup := Desc.nd dE
    have xE : x ∈ E := pE.mem_iff.mpr List.mem_cons_self
    have pE1 : (E.map (·.1)).Perm (x.1 :: roomOf L) := pE.map (·.1)
    have eEx : (E.map (·.1)).erase x.1 = roomOf L := by
      refine desc_eq ?_ ((Desc.down dE).sublist (List.erase_sublist ..)) (roomOf_desc dL)
      have := pE1.erase x.1
      rw [List.erase_cons_head] at this
      exact this
    rcases out with ⟨fine, e1, e2⟩ | ⟨i, y, ey, fine, bad, e1, e2⟩
    · refine ⟨[], E.map (·.1), settleL (r0 0 L), L, ?_, List.mem_map_of_mem xE, rfl, List.Sublist.refl _, .inl ?_⟩
      · rw [first, e1, e2]
        rfl
      · rw [eEx]
    · have yE := List.mem_of_getElem? ey
      have eEy : (g0 0 L').map (·.1) = (E.map (·.1)).erase y.1 := by
        rw [e1, erase_at ndE (by rw [List.getElem?_map, ey]; rfl)]
        exact (map_erase0' (·.1) E i).symm
      by_cases hyx : y = x
      · subst hyx
        have neL : L ≠ [] := fun z => by
          have l1 := pE.length_eq
          rw [z] at l1
          have l2 := at_lt ey
          have l3 : E.length = 1 := l1
          have := pos y h.mem
          omega
        have firstL := settle_first neL fun g m => pos g (h.sub.subset m)
        have hlt : (r0 0 L').length ≤ n := by
          have := (g0_r0_perm L' 0).length_eq
          rw [List.length_append] at this
          have g1 : 0 < (g0 0 L').length := by
            cases L' with
            | nil => exact absurd rfl ne
            | cons a b =>
              rw [g0_yes (show ((0 : Nat) : Int) ≤ a.2 from pos a List.mem_cons_self)]
              exact Nat.succ_pos _
          omega
        obtain ⟨D, R, T, J, s1, s2, s3, s4, s5⟩ := leaves n hlt e2 (d.sub (r0_sub L' 0)) fun g m => pos g ((r0_sub L' 0).subset m)
        refine ⟨roomOf L :: D, R, T, J, ?_, s2, ?_, s4.trans (r0_sub L 0), s5⟩
        · rw [first, eEy, eEx, s1]
          rfl
        · rw [firstL, s3]
          rfl
      · have yL : y ∈ g0 0 L := (List.mem_cons.mp (pE.mem_iff.mp yE)).resolve_left hyx
        have nxy : x.1 ≠ y.1 := fun z => hyx (by
          have h1 := pE.map (·.1)
          have h2 : (x.1 :: roomOf L).Nodup := h1.nodup_iff.mp ndE
          exact absurd (List.mem_map_of_mem (f := (·.1)) yL) (by rw [← z]; exact (List.nodup_cons.mp h2).1))
        refine ⟨[], (E.map (·.1)).erase y.1, settleL (r0 0 L'), L, ?_, ?_, rfl, List.Sublist.refl _, .inr ⟨y, r0 0 L', ?_, yL, e2, d.sub (r0_sub L' 0)⟩⟩
        · rw [first, eEy]
          rfl
        · exact (List.mem_erase_of_ne nxy).mpr (List.mem_map_of_mem xE)
        · rw [List.erase_comm, eEx]
/-- room n is one that somebody has left; those of gs are there -/
def Hole (gs : List (Int × Int)) (rs : List (List Int)) (n : Nat) : Prop :=
  ∃ (D : List (List Int)) (L : List (Int × Int)) (X : List (List Int)), rs = D ++ X ∧ n = D.length ∧ settle gs = D ++ settleL L ∧ L.Sublist (byAge gs) ∧ After L X
theorem settle_nd {gs : List (Int × Int)} (F : Fit gs) : (settle gs).flatten.Nodup := (settle_flat gs).nodup_iff.mpr F.nd
/-- the only room in which y is -/
theorem only_room {rs : List (List Int)} {D T : List (List Int)} {S : List Int} {y : Int} (e : rs = D ++ S :: T) (nd : rs.flatten.Nodup) (m : y ∈ S) : ∀ (j : Nat) (r : List Int), rs[j]? = some r → y ∈ r → j = D.length := fun j r ej mr => by
  subst e
  rw [List.flatten_append, List.flatten_cons] at nd
  obtain ⟨n1, n2, n3⟩ := List.nodup_append.mp nd
  obtain ⟨n4, n5, n6⟩ := List.nodup_append.mp n2
  rcases Nat.lt_trichotomy j D.length with h | h | h
  · rw [List.getElem?_append_left h] at ej
    exact absurd rfl (n3 y (List.mem_flatten.mpr ⟨r, List.mem_of_getElem? ej, mr⟩) y (List.mem_append_left _ m))
  · exact h
  · rw [List.getElem?_append_right (Nat.le_of_lt h), show j - D.length = (j - D.length - 1) + 1 by omega, List.getElem?_cons_succ] at ej
    exact absurd rfl (n6 y m y (List.mem_flatten.mpr ⟨r, List.mem_of_getElem? ej, mr⟩))
theorem Fit.without {gs : List (Int × Int)} (F : Fit gs) (a : Int) : Fit (gs.filter fun g => decide (g.1 ≠ a)) := F.filter _
theorem without_perm {gs : List (Int × Int)} (F : Fit gs) {x : Int × Int} (m : x ∈ gs) : (x :: gs.filter fun g => decide (g.1 ≠ x.1)).Perm gs := by
  obtain ⟨A, B, rfl⟩ := List.append_of_mem m
  have nd := F.nd
  rw [List.map_append, List.map_cons] at nd
  obtain ⟨n1, n2, n3⟩ := List.nodup_append.mp nd
  obtain ⟨n4, n5⟩ := List.nodup_cons.mp n2
  have eA : A.filter (fun g => decide (g.1 ≠ x.1)) = A := List.filter_eq_self.mpr fun g hg => decide_eq_true fun z => n3 g.1 (List.mem_map_of_mem hg) x.1 List.mem_cons_self z
  have eB : B.filter (fun g => decide (g.1 ≠ x.1)) = B := List.filter_eq_self.mpr fun g hg => decide_eq_true fun z => n4 (z ▸ List.mem_map_of_mem hg)
  rw [List.filter_append, List.filter_cons, if_neg (by simp), eA, eB]
  exact List.perm_middle.symm
/-- x goes out of the room it lives in -/
theorem Hole.start {gs : List (Int × Int)} (F : Fit gs) {x : Int × Int} (m : x ∈ gs) : ∃ (n : Nat) (R : List Int), (settle gs)[n]? = some R ∧ x.1 ∈ R ∧ R.Nodup ∧ (∀ (j : Nat) (r : List Int), (settle gs)[j]? = some r → x.1 ∈ r → j = n) ∧
    Hole (gs.filter fun g => decide (g.1 ≠ x.1)) ((settle gs).set n (R.erase x.1)) n := by
  have F2 : Fit (x :: gs.filter fun g => decide (g.1 ≠ x.1)) := F.perm (without_perm F m)
  obtain ⟨pre, post, e1, e2⟩ := byAge_split F2
  have e3 : byAge gs = pre ++ x :: post := by
    rw [← e1]
    exact (byAge_congr F (without_perm F m)).symm
  have hc : Comes x (byAge (gs.filter fun g => decide (g.1 ≠ x.1))) (byAge gs) := ⟨pre, post, e2, e3⟩
  obtain ⟨D, R, T, J, s1, s2, s3, s4, s5⟩ := leaves _ (Nat.le_refl _) hc (byAge_desc F) F.byAge.pos
  have s1' : settle gs = D ++ R :: T := s1
  have nd := settle_nd F
  refine ⟨D.length, R, ?_, s2, ?_, only_room s1' nd s2, D, J, R.erase x.1 :: T, ?_, rfl, s3, s4, s5⟩
  · rw [s1', List.getElem?_append_right (Nat.le_refl _), Nat.sub_self]
    rfl
  · rw [s1', List.flatten_append, List.flatten_cons] at nd
    exact (List.nodup_append.mp (List.nodup_append.mp nd).2.1).1
  · rw [s1', List.set_append_right _ _ (Nat.le_refl _), Nat.sub_self]
    rfl
/-- either nobody behind bears it there, or the eldest who does comes back -/
theorem Hole.step {gs : List (Int × Int)} (F : Fit gs) {rs : List (List Int)} {n : Nat} (h : Hole gs rs n) : rs.flatten.Nodup ∧ (∀ a ∈ rs.flatten, a ∈ gs.map (·.1)) ∧ ∃ R : List Int, rs[n]? = some R ∧
    (((∀ z ∈ (rs.drop (n + 1)).flatten, bearB gs R z = false) ∧ (R ≠ [] → rs = settle gs) ∧ (R = [] → rs = settle gs ++ [[]])) ∨
      ∃ (y : Int) (m : Nat) (S : List Int), y ∈ (rs.drop (n + 1)).flatten ∧ bearB gs R y = true ∧ (∀ z ∈ (rs.drop (n + 1)).flatten, bearB gs R z = true → z ≤ y) ∧ n < m ∧ rs[m]? = some S ∧ y ∈ S ∧ (∀ (j : Nat) (r : List Int), rs[j]? = some r → y ∈ r → j = m) ∧
        Hole gs ((rs.set m (S.erase y)).set n (down (R ++ [y]))) m) := by
  obtain ⟨D, L, X, rfl, rfl, e, sL, hA⟩ := h
  have dB := byAge_desc F
  have dL : Desc L := dB.sub sL
  have mem : ∀ g ∈ L, g ∈ gs := fun g m => (byAge_perm gs).mem_iff.mp (sL.subset m)
  have pos : ∀ g ∈ L, 0 ≤ g.2 := fun g m => F.pos g (mem g m)
  have ndS := settle_nd F
  have inS : ∀ a, a ∈ (settle gs).flatten → a ∈ gs.map (·.1) := fun a m => (settle_flat gs).mem_iff.mp m
  have bad : ∀ z ∈ r0 0 L, ∀ R : List Int, eldN R z.1 = eldN (roomOf L) z.1 → bearB gs R z.1 = false := fun z hz R hR => by
    unfold bearB
    rw [pof_is F.nd (mem z ((r0_sub L 0).subset hz)), hR]
    have := r0_bad L 0 z dL hz
    rw [Nat.zero_add] at this
    exact decide_eq_false (by
      have h2 : z.2 < (eldN (roomOf L) z.1 : Int) := this
      omega)
  have ofRest : ∀ (M : List (Int × Int)) (z : Int), z ∈ (settleL M).flatten → ∃ g ∈ M, g.1 = z := fun M z hz => by
    obtain ⟨g, hg, eg⟩ := List.mem_map.mp ((settleL_flat M).mem_iff.mp hz)
    exact ⟨g, hg, eg⟩
  have dropD : ∀ (a : List Int) (b : List (List Int)), (D ++ a :: b).drop (D.length + 1) = b := fun a b => by
    rw [show D ++ a :: b = (D ++ [a]) ++ b by simp, List.drop_left' (by simp)]
  rcases hA with rfl | ⟨y, M, rfl, yL, hc, dM⟩
  · have eS : D ++ roomOf L :: settleL (r0 0 L) = if L = [] then settle gs ++ [[]] else settle gs := by
      by_cases hL : L = []
      · rw [if_pos hL, e, hL, List.append_assoc]
        rfl
      · rw [if_neg hL, e, settle_first hL pos]
        rfl
    have hne : roomOf L = [] ↔ L = [] := by
      refine ⟨fun z => ?_, fun z => by rw [z]; rfl⟩
      cases L with
      | nil => rfl
      | cons a b =>
        unfold roomOf at z
        rw [g0_yes (show ((0 : Nat) : Int) ≤ a.2 from pos a List.mem_cons_self)] at z
        cases z
    refine ⟨?_, fun a m => ?_, roomOf L, ?_, .inl ⟨fun z hz => ?_, fun z => ?_, fun z => ?_⟩⟩
    · rw [eS]
      split
      · rw [List.flatten_append]
        simpa using ndS
      · exact ndS
    · rw [eS] at m
      split at m
      · rw [List.flatten_append] at m
        exact inS a (by simpa using m)
      · exact inS a m
    · rw [List.getElem?_append_right (Nat.le_refl _), Nat.sub_self]
      rfl
    · rw [dropD] at hz
      obtain ⟨g, hg, rfl⟩ := ofRest _ z hz
      exact bad g hg _ rfl
    · rw [eS, if_neg fun y => z (hne.mpr y)]
    · rw [eS, if_pos (hne.mp z)]
  · have hL : L ≠ [] := fun z => by
      rw [z] at yL
      cases yL
    have eS : settle gs = D ++ roomOf L :: settleL (r0 0 L) := by
      rw [e, settle_first hL pos]
      rfl
    have yR : y.1 ∈ roomOf L := List.mem_map_of_mem yL
    have yin := mem y ((g0_sub L 0).subset yL)
    have subM : ∀ g ∈ M, g ∈ L := fun g m => by
      rcases List.mem_cons.mp (hc.perm.mem_iff.mp m) with rfl | m
      · exact (g0_sub L 0).subset yL
      · exact (r0_sub L 0).subset m
    have pAll : (D ++ (roomOf L).erase y.1 :: settleL M).flatten.Perm (settle gs).flatten := by
      rw [eS, List.flatten_append, List.flatten_append, List.flatten_cons, List.flatten_cons]
      refine List.Perm.append_left _ ?_
      have p1 : (settleL M).flatten.Perm (y.1 :: (settleL (r0 0 L)).flatten) := (settleL_flat M).trans ((show (M.map (·.1)).Perm (y.1 :: (r0 0 L).map (·.1)) from hc.perm.map (·.1)).trans ((settleL_flat (r0 0 L)).symm.cons y.1))
      refine (List.Perm.append_left _ p1).trans ?_
      refine List.perm_middle.trans ?_
      exact (List.perm_cons_erase yR).symm.append_right _
    have ndX := pAll.nodup_iff.mpr ndS
    have neR : (roomOf L).erase y.1 ++ [y.1] ≠ [] := by simp
    have eR : down ((roomOf L).erase y.1 ++ [y.1]) = roomOf L := (down_is ((List.perm_cons_erase yR).trans (List.perm_append_comm (l₁ := [y.1]) (l₂ := (roomOf L).erase y.1))) (roomOf_desc dL)).symm
    obtain ⟨D1, S, T, J, s1, s2, s3, s4, s5⟩ := leaves _ (Nat.le_refl _) hc dM fun g m => pos g (subM g m)
    have eX : D ++ (roomOf L).erase y.1 :: settleL M = (D ++ (roomOf L).erase y.1 :: D1) ++ S :: T := by
      rw [s1]
      simp
    refine ⟨ndX, fun a m => inS a (pAll.mem_iff.mp m), (roomOf L).erase y.1, ?_, .inr ⟨y.1, D.length + 1 + D1.length, S, ?_, ?_, fun z hz hb => ?_, by omega, ?_, s2, ?_, ?_⟩⟩
    · rw [List.getElem?_append_right (Nat.le_refl _), Nat.sub_self]
      rfl
    · rw [dropD, s1]
      exact List.mem_flatten.mpr ⟨S, by simp, s2⟩
    · unfold bearB
      rw [pof_is F.nd yin, eldN_erase (Int.lt_irrefl _)]
      have := g0_good L 0 y dL yL
      rw [Nat.zero_add] at this
      exact decide_eq_true this
    · rw [dropD] at hz
      obtain ⟨g, hg, rfl⟩ := ofRest _ z hz
      rcases List.mem_cons.mp (hc.perm.mem_iff.mp hg) with rfl | hg
      · exact Int.le_refl _
      · rcases Int.lt_or_le y.1 g.1 with hlt | hle
        · rw [bad g hg _ (eldN_erase (by omega))] at hb
          cases hb
        · exact hle
    · rw [eX, List.getElem?_append_right (by simp; omega)]
      rw [show D.length + 1 + D1.length - (D ++ (roomOf L).erase y.1 :: D1).length = 0 by simp; omega]
      rfl
    · have := only_room eX ndX s2
      rw [show (D ++ (roomOf L).erase y.1 :: D1).length = D.length + 1 + D1.length by simp; omega] at this
      exact this
    · refine ⟨D ++ roomOf L :: D1, J, S.erase y.1 :: T, ?_, by simp; omega, ?_, s4.trans ((r0_sub L 0).trans sL), s5⟩
      · rw [eR, eX, List.set_append_right _ _ (by simp; omega), show D.length + 1 + D1.length - (D ++ (roomOf L).erase y.1 :: D1).length = 0 by simp; omega]
        rw [List.set_cons_zero, List.append_assoc, List.set_append_right _ _ (Nat.le_refl _), Nat.sub_self]
        simp
      · rw [eS, s3]
        simp
/-- the eldest behind room n who would bear it there -/
def backE (gs : List (Int × Int)) (rs : List (List Int)) (n : Nat) : Option Int := ((rs.drop (n + 1)).flatten.filter (bearB gs (rs.getD n []))).max?
/-- the first room in which a is -/
def whereI (rs : List (List Int)) (a : Int) : Nat := rs.findIdx fun r => decide (a ∈ r)
/-- y goes from room m into room n -/
def moveR (rs : List (List Int)) (m n : Nat) (y : Int) : List (List Int) := (rs.set m ((rs.getD m []).erase y)).set n (down (rs.getD n [] ++ [y]))
/-- who comes back into which room -/
def goF : Nat → List (Int × Int) → List (List Int) → Nat → List (Int × Int)
  | 0, _, _, _ => []
  | k + 1, gs, rs, n => match backE gs rs n with
    | none => []
    | some y => (y, (n : Int)) :: goF k gs (moveR rs (whereI rs y) n y) (whereI rs y)
theorem backE_none {gs : List (Int × Int)} {rs : List (List Int)} {n : Nat} {R : List Int} (e : rs[n]? = some R) (h : ∀ z ∈ (rs.drop (n + 1)).flatten, bearB gs R z = false) : backE gs rs n = none := by
  unfold backE
  rw [List.getD_eq_getElem?_getD, e, show (some R).getD [] = R from rfl, List.filter_eq_nil_iff.mpr fun z hz => by rw [h z hz]; exact Bool.false_ne_true]
  rfl
theorem backE_some {gs : List (Int × Int)} {rs : List (List Int)} {n : Nat} {R : List Int} {y : Int} (e : rs[n]? = some R) (m : y ∈ (rs.drop (n + 1)).flatten) (b : bearB gs R y = true) (h : ∀ z ∈ (rs.drop (n + 1)).flatten, bearB gs R z = true → z ≤ y) : backE gs rs n = some y := by
  unfold backE
  rw [List.getD_eq_getElem?_getD, e, show (some R).getD [] = R from rfl]
  refine List.max?_eq_some_iff.mpr ⟨List.mem_filter.mpr ⟨m, b⟩, fun z hz => ?_⟩
  obtain ⟨h1, h2⟩ := List.mem_filter.mp hz
  exact h z h1 h2
theorem whereI_is {rs : List (List Int)} {y : Int} {m : Nat} {S : List Int} (e : rs[m]? = some S) (hy : y ∈ S) (o : ∀ (j : Nat) (r : List Int), rs[j]? = some r → y ∈ r → j = m) : whereI rs y = m := by
  unfold whereI
  have hl := at_lt e
  have eS : rs[m] = S := by
    rw [List.getElem?_eq_getElem hl] at e
    exact Option.some.inj e
  refine (List.findIdx_eq hl).mpr ⟨by rw [eS]; exact decide_eq_true hy, fun j hj => decide_eq_false fun z => ?_⟩
  have := o j (rs[j]'(Nat.lt_trans hj hl)) (List.getElem?_eq_getElem _) z
  omega
/-- what go tells of gs when the guest of age a goes -/
def goT (gs : List (Int × Int)) (a : Int) : List (Int × Int) := goF (settle gs).length (gs.filter fun g => decide (g.1 ≠ a)) ((settle gs).set (whereI (settle gs) a) (((settle gs).getD (whereI (settle gs) a) []).erase a)) (whereI (settle gs) a)
end El
namespace El
open PySem PySem.Spec PyProof.Rows L2
/-! ### what a method with two lines around its name is asked by -/
section
variable {X : Cx} {k : Nat} {C : Addr} {m q : Str} {st : Stmt} {ps : List Str} {sp : Sp}
/-- a method of ours, run below a builtin -/
theorem run_in {pins : List (Addr × Obj)} {σ : L2.St} {H : Hp} {s : Shared} {A : Around} {Q : VK} {us : List Value} {vs : List V} {f : Addr} {fd : FuncData} (F : FnOk X.prog X.w X.K X.mg X.base CX0 k f fd ps sp) (hr : Room k A) (hfr : A.frames = X.A.frames) (hb : Binds X.K fd ps [])
    (I : Inv X pins σ H s) (r : Vals vs us) (h : sp vs H Q E0) : wpAny (model X.prog X.w) A (call (.ref f) us) (EP X pins σ Q) X.xe s := by
  have e0 : Env0 X.prog X.w X.K X.mg X.base A X.stack s H := by
    have e := I.env0
    exact ⟨by rw [hfr]; exact e.frames, e.mod, e.bs, e.bsz, e.funs, e.frf, e.hok, e.bare⟩
  have hl : us.length = ps.length := by
    rw [← r.length]
    exact F.len _ _ _ _ h
  refine wpAny_call (codeAny_mono (F.run A X.stack s H ⟨us, []⟩ us vs Q E0 hr e0 (by
    have := hb s us I.kIn (by simpa using hl)
    simpa using this) r h) fun r s' hq => ?_)
  cases r with
  | error e => exact pass0 pins σ H s e s' I hq
  | ok fl =>
    cases fl with
    | ret u => exact I.after hq
    | next => exact False.elim hq
    | brk => exact False.elim hq
    | cont => exact False.elim hq
/-- len(o), o with an own __len__ -/
def rLenO (C : Addr) (sp : Sp) : List V → Hp → VK → Prop := fun xs H Q => ∃ (p dx : Addr) (fs : List (Str × V)), xs = [.ref p] ∧ H p = some (.ins C dx fs) ∧ sp [.ref p] H (fun v H' => ∃ n : Int, v = .int n ∧ 0 ≤ n ∧ n < 2 ^ 63 ∧ Q (.int n) H') E0
theorem call_lenO (D : Mf X.prog X.w X.K X.mg X.base k C "__len__" q ps st sp) (hr : Room (k + 1) X.A) : CallR X (.builtin "len") (rLenO C sp) := by
  obtain ⟨f, fd, _, M, b, F⟩ := D.ex
  intro pins s σ H xs us Q I r h
  obtain ⟨p, dx, fs, rfl, ep, h⟩ := h
  obtain rfl := Vals.ref1 r
  obtain ⟨mA, J, _⟩ := ins_get I.hok ep
  obtain ⟨od, J, _⟩ := J.look
  obtain ⟨mm, hF⟩ := I.fr
  refine PySem.W.len_K hF I.ok.mod.kin J M.at_ M.fn ?_
  have r1 : Vals [V.ref p] [Value.ref p] := .cons rfl .nil
  refine wpAny_mono (run_in F hr.in1 rfl b I r1 h) (fun u s' hq => ?_) fun _ _ x => x
  obtain ⟨v, H', I', rv, n, rfl, n0, n1, q⟩ := hq
  obtain ⟨t, rfl⟩ := rv
  exact ⟨⟨n0, n1⟩, .int n, H', I'.tok _, ⟨_, rfl⟩, q⟩
/-- a op b, both of a class of the text's own that says itself how -/
def rCmpO (C : Addr) (sp : Sp) : R2 := fun x y H Q => ∃ (a b dx dy : Addr) (fs gs : List (Str × V)), x = .ref a ∧ y = .ref b ∧ H a = some (.ins C dx fs) ∧ H b = some (.ins C dy gs) ∧ sp [.ref a, .ref b] H (fun v H' => ∃ c : Bool, v = .bl c ∧ Q (.bl c) H') E0
theorem cmpO {op : CmpOp} {pins : List (Addr × Obj)} {σ : L2.St} {H : Hp} {s : Shared} {Q : VK} {a b dx dy : Addr} {fs gs : List (Str × V)} (D : Mf X.prog X.w X.K X.mg X.base k C (cmpInfo op).2.1 q ps st sp) (hr : Room k X.A) (I : Inv X pins σ H s) (ha : H a = some (.ins C dx fs)) (hb : H b = some (.ins C dy gs))
    (h : sp [.ref a, .ref b] H (fun v H' => ∃ c : Bool, v = .bl c ∧ Q (.bl c) H') E0) : wpAny (model X.prog X.w) X.A (richCompare op (.ref a) (.ref b)) (EP X pins σ Q) X.xe s := by
  obtain ⟨f, fd, _, M, bi, F⟩ := D.ex
  obtain ⟨mA, J, _⟩ := ins_get I.hok ha
  obtain ⟨mB, J', _⟩ := ins_get I.hok hb
  obtain ⟨od, J, _⟩ := J.look
  obtain ⟨od', J', _⟩ := J'.look
  obtain ⟨mm, hF⟩ := I.fr
  refine PySem.W.cmp_K (op := op) (tb := .ref C) hr.units0 hF I.ok.mod.kin J J'.type (by simp [PySem.W.notFirst]) M.at_ M.fn ?_
  have r2 : Vals [V.ref a, V.ref b] [Value.ref a, Value.ref b] := .cons rfl (.cons rfl .nil)
  refine wpAny_mono (run_in F hr rfl bi I r2 h) (fun u s' hq => ?_) fun _ _ x => x
  obtain ⟨v, H', I', rv, c, rfl, q⟩ := hq
  cases rv
  exact ⟨.bl c, H', I', rfl, q⟩
theorem op_eqO (D : Mf X.prog X.w X.K X.mg X.base k C "__eq__" q ps st sp) (hr : Room k X.A) : OpR X (compareOp .Eq) (rCmpO C sp) := by
  intro pins s σ H x y v u Q I rx ry h
  obtain ⟨a, b, dx, dy, fs, gs, rfl, rfl, ha, hb, h⟩ := h
  cases rx
  cases ry
  exact cmpO (op := .Eq) D hr I ha hb h
theorem op_neO (D : Mf X.prog X.w X.K X.mg X.base k C "__ne__" q ps st sp) (hr : Room k X.A) : OpR X (compareOp .NotEq) (rCmpO C sp) := by
  intro pins s σ H x y v u Q I rx ry h
  obtain ⟨a, b, dx, dy, fs, gs, rfl, rfl, ha, hb, h⟩ := h
  cases rx
  cases ry
  exact cmpO (op := .NotEq) D hr I ha hb h
/-- what isinstance asks of an instance of the class -/
structure InsT (K : PySem.W.Frag) (C : Addr) : Prop where
  ha : PySem.W.findIn K (.ref C) "__class__" = some (some (.builtin "object.__class__"))
  hn : PySem.W.specialIn K (.builtin "object.__class__") "__get__" = some (some (.builtin "getset_descriptor.__get__"))
  ht : PySem.W.takesIn K (.builtin "object.__class__") = some true
  hm : PySem.W.mroIn K C (.type "object") = some true
theorem relRefO (a : Addr) : RelV (.ref a) (.ref a) := rfl
theorem kit_same {K : PySem.W.Frag} (C : Addr) : PySem.W.kitOne K (.ref C) (.ref C) = some true := if_pos (beq_self_eq_true _)
theorem fldK {e : Expr} {f : Str} {pos : Pos} {ta : TE} (K : PySem.W.Frag) (he : PE X e ta) (hb : attributeBase e f X.env (eval e X.env) = eval e X.env := by rfl) (eK : X.K = K := by rfl) : PE X (.Attribute e f pos) (tFld K ta f) := by
  subst eK
  exact pe_fld he hb
end
end El
namespace El
open PySem PySem.Spec PyProof.Rows L2
open PySem.W (minOf maxOf DatumOrd HoldAll min_list_datum_default max_list_datum_default)
/-! ### min(xs, default=d), max(xs, default=d), xs of ints -/
def rMinDf (K : PySem.W.Frag) : List V → List V → Hp → VK → Prop := fun vs zs H Q => ∃ (a : Addr) (ns : List Int) (v : V), vs = [.ref a] ∧ zs = [v] ∧ SqL K H a (ns.map V.int) ∧ (ns = [] → Q v H) ∧ ∀ m, m ∈ ns → (∀ y, y ∈ ns → m ≤ y) → Q (.int m) H
def rMaxDf (K : PySem.W.Frag) : List V → List V → Hp → VK → Prop := fun vs zs H Q => ∃ (a : Addr) (ns : List Int) (v : V), vs = [.ref a] ∧ zs = [v] ∧ SqL K H a (ns.map V.int) ∧ (ns = [] → Q v H) ∧ ∀ m, m ∈ ns → (∀ y, y ∈ ns → y ≤ m) → Q (.int m) H
theorem minOf_is : ∀ (ys : List Int) (y : Int), minOf y ys ∈ y :: ys ∧ ∀ z ∈ y :: ys, minOf y ys ≤ z
  | [], y => ⟨List.mem_cons_self, fun z m => by rw [List.mem_singleton.mp m]; exact Int.le_refl _⟩
  | x :: ys, y => by
    show minOf (if DatumOrd.lt x y = true then x else y) ys ∈ _ ∧ _
    obtain ⟨h1, h2⟩ := minOf_is ys (if DatumOrd.lt x y = true then x else y)
    have hxy : DatumOrd.lt x y = decide (x < y) := rfl
    rw [hxy] at h1 h2
    show minOf (if DatumOrd.lt x y = true then x else y) ys ∈ y :: x :: ys ∧ ∀ z ∈ y :: x :: ys, minOf (if DatumOrd.lt x y = true then x else y) ys ≤ z
    rw [hxy]
    by_cases h : x < y
    · rw [decide_eq_true h, if_pos rfl] at h1 h2 ⊢
      refine ⟨List.mem_cons_of_mem _ h1, fun z m => ?_⟩
      rcases List.mem_cons.mp m with rfl | m
      · have := h2 x List.mem_cons_self
        omega
      · exact h2 z m
    · rw [decide_eq_false h, if_neg Bool.false_ne_true] at h1 h2 ⊢
      refine ⟨?_, fun z m => ?_⟩
      · rcases List.mem_cons.mp h1 with e | m
        · rw [e]; exact List.mem_cons_self
        · exact List.mem_cons_of_mem _ (List.mem_cons_of_mem _ m)
      · rcases List.mem_cons.mp m with rfl | m
        · exact h2 _ List.mem_cons_self
        · rcases List.mem_cons.mp m with rfl | m
          · have := h2 y List.mem_cons_self
            omega
          · exact h2 z (List.mem_cons_of_mem _ m)
theorem maxOf_is : ∀ (ys : List Int) (y : Int), maxOf y ys ∈ y :: ys ∧ ∀ z ∈ y :: ys, z ≤ maxOf y ys
  | [], y => ⟨List.mem_cons_self, fun z m => by rw [List.mem_singleton.mp m]; exact Int.le_refl _⟩
  | x :: ys, y => by
    show maxOf (if DatumOrd.lt y x = true then x else y) ys ∈ y :: x :: ys ∧ ∀ z ∈ y :: x :: ys, z ≤ maxOf (if DatumOrd.lt y x = true then x else y) ys
    obtain ⟨h1, h2⟩ := maxOf_is ys (if DatumOrd.lt y x = true then x else y)
    have hxy : DatumOrd.lt y x = decide (y < x) := rfl
    rw [hxy] at h1 h2 ⊢
    by_cases h : y < x
    · rw [decide_eq_true h, if_pos rfl] at h1 h2 ⊢
      refine ⟨List.mem_cons_of_mem _ h1, fun z m => ?_⟩
      rcases List.mem_cons.mp m with rfl | m
      · have := h2 x List.mem_cons_self
        omega
      · exact h2 z m
    · rw [decide_eq_false h, if_neg Bool.false_ne_true] at h1 h2 ⊢
      refine ⟨?_, fun z m => ?_⟩
      · rcases List.mem_cons.mp h1 with e | m
        · rw [e]; exact List.mem_cons_self
        · exact List.mem_cons_of_mem _ (List.mem_cons_of_mem _ m)
      · rcases List.mem_cons.mp m with rfl | m
        · exact h2 _ List.mem_cons_self
        · rcases List.mem_cons.mp m with rfl | m
          · have := h2 y List.mem_cons_self
            omega
          · exact h2 z (List.mem_cons_of_mem _ m)
section
variable {X : Cx}
theorem cr_minDf (K : PySem.W.Frag) (hu : X.A.units + 64 < cLine) (hc : X.calm = true) (e : X.K = K := by rfl) : CallRK X (.builtin "min") [Str.ofString "default"] (rMinDf K) := by
  subst e
  intro pins s σ H vs0 zs us ws Q I r rz h
  obtain ⟨a, ns, v, rfl, rfl, hs, q0, q1⟩ := h
  obtain rfl := Vals.ref1 r
  obtain ⟨w1, rfl, e1⟩ := vals1 rz
  obtain ⟨its, rv, hl, _⟩ := I.list hs
  refine min_list_datum_default (I.ok.hd hc) hl.isList (HoldAll.of_ints rv.ints) (by show X.A.units + 1 + 0 < cLine; omega) (fun e0 h' tk k => ⟨v, H, I.kept k, e1, q0 e0⟩) fun y ys i u h' tk en hi hm k => ?_
  obtain ⟨h1, h2⟩ := minOf_is ys y
  rw [← en] at h1 h2
  obtain ⟨as, hm⟩ := hm
  cases hm
  exact ⟨.int (minOf y ys), H, I.kept k, ⟨_, rfl⟩, q1 _ h1 h2⟩
theorem cr_maxDf (K : PySem.W.Frag) (hu : X.A.units + 64 < cLine) (hc : X.calm = true) (e : X.K = K := by rfl) : CallRK X (.builtin "max") [Str.ofString "default"] (rMaxDf K) := by
  subst e
  intro pins s σ H vs0 zs us ws Q I r rz h
  obtain ⟨a, ns, v, rfl, rfl, hs, q0, q1⟩ := h
  obtain rfl := Vals.ref1 r
  obtain ⟨w1, rfl, e1⟩ := vals1 rz
  obtain ⟨its, rv, hl, _⟩ := I.list hs
  refine max_list_datum_default (I.ok.hd hc) hl.isList (HoldAll.of_ints rv.ints) (by show X.A.units + 1 + 0 < cLine; omega) (fun e0 h' tk k => ⟨v, H, I.kept k, e1, q0 e0⟩) fun y ys i u h' tk en hi hm k => ?_
  obtain ⟨h1, h2⟩ := maxOf_is ys y
  rw [← en] at h1 h2
  obtain ⟨as, hm⟩ := hm
  cases hm
  exact ⟨.int (maxOf y ys), H, I.kept k, ⟨_, rfl⟩, q1 _ h1 h2⟩
end
end El
namespace El
open PySem PySem.Spec PyProof.Rows L2
def topS (i : Nat) : Stmt := PySem.Challenge.pw_elderinn_k13_inns_refused.main.body.getD i (.Pass ⟨0, 0, 0, 0⟩)
end El
namespace El
open PySem PySem.Spec PyProof.Rows L2
section
variable {P : Program} {w : World} {K : PySem.W.Frag} {mg : Str → Option Value} {base : Heap}
abbrev sI_NoGuest : Stmt := inClass (topS 2) 0
theorem scI_NoGuest : FnScope ["self", "what"] ["self", "what"] (defScope sI_NoGuest) := ⟨rfl, rfl, rfl, by decide +kernel, rfl, by decide +kernel, by decide +kernel⟩
theorem fo_NoGuest {C0 fI : Addr} {fd : FuncData} (F : Fun K "__init__" "NoGuest.__init__" sI_NoGuest fI fd) (T0 : InnC K mg C0) : FnOk P w K mg base CX0 1 fI fd ["self", "what"] (sp_initW K) := by
  refine F.ok scI_NoGuest (fun vs H Q E h => ?_) (fun cdv AA outer s H vs Q E hr h => ?_)
  · obtain ⟨_, _, _, rfl, _⟩ := h
    rfl
  · obtain ⟨a, D, v, rfl, hC, hw, ha, hv, q⟩ := h
    have nd := scI_NoGuest.nd
    refine ⟨_, pss_cons (ps_expr (pe_ownI T0 (pa_cons (pv 0) (pa_cons (pe_joined (.cons pe_str (.cons (pe_fmtW hr (pv 1)) .nil))) pa_nil)))) (pss_one (ps_ost (pv 0) (pv 1))), ?_⟩
    refine ⟨.ref a, rfl, ?_⟩
    have last : tOst K "what" (tVar 0) (tVar 1) { nx := fun _ H' => Q .non H', rt := Q } [some (.ref a), some v] H := ⟨v, rfl, .ref a, rfl, a, D, rfl, hC, hw, .inl ⟨ha, q⟩⟩
    refine ⟨_, rfl, (by show _ ≤ sizeLine; decide +kernel), v, rfl, hv, fun m hm => ⟨_, rfl, ?_, a, D, _, rfl, (by show 1 ≤ 1000; decide), hC, ha, last⟩⟩
    rw [PySem.Str.length_append]
    exact Nat.le_trans (Nat.add_le_add (show _ ≤ 1000 by decide +kernel) hm) (by decide)
theorem own_NoGuest {C0 C fI : Addr} {fd : FuncData} (T : Own K mg "NoGuest" C fI) (F : Fun K "__init__" "NoGuest.__init__" sI_NoGuest fI fd) (T0 : InnC K mg C0) : OwnW P w K mg base "NoGuest" C :=
  ⟨fI, fd, T, fo_NoGuest F T0, F.binds fun _ _ _ _ _ _ us hl => match us, hl with | [_, _], _ => rfl⟩
end
end El
namespace El
open PySem PySem.Spec PyProof.Rows L2
section
variable {P : Program} {w : World} {K : PySem.W.Frag} {mg : Str → Option Value} {base : Heap}
abbrev sI_NoRooms : Stmt := inClass (topS 3) 0
theorem scI_NoRooms : FnScope ["self", "what"] ["self", "what"] (defScope sI_NoRooms) := ⟨rfl, rfl, rfl, by decide +kernel, rfl, by decide +kernel, by decide +kernel⟩
theorem fo_NoRooms {C0 fI : Addr} {fd : FuncData} (F : Fun K "__init__" "NoRooms.__init__" sI_NoRooms fI fd) (T0 : InnC K mg C0) : FnOk P w K mg base CX0 1 fI fd ["self", "what"] (sp_initW K) := by
  refine F.ok scI_NoRooms (fun vs H Q E h => ?_) (fun cdv AA outer s H vs Q E hr h => ?_)
  · obtain ⟨_, _, _, rfl, _⟩ := h
    rfl
  · obtain ⟨a, D, v, rfl, hC, hw, ha, hv, q⟩ := h
    have nd := scI_NoRooms.nd
    refine ⟨_, pss_cons (ps_expr (pe_ownI T0 (pa_cons (pv 0) (pa_cons (pe_joined (.cons pe_str (.cons (pe_fmtW hr (pv 1)) .nil))) pa_nil)))) (pss_one (ps_ost (pv 0) (pv 1))), ?_⟩
    refine ⟨.ref a, rfl, ?_⟩
    have last : tOst K "what" (tVar 0) (tVar 1) { nx := fun _ H' => Q .non H', rt := Q } [some (.ref a), some v] H := ⟨v, rfl, .ref a, rfl, a, D, rfl, hC, hw, .inl ⟨ha, q⟩⟩
    refine ⟨_, rfl, (by show _ ≤ sizeLine; decide +kernel), v, rfl, hv, fun m hm => ⟨_, rfl, ?_, a, D, _, rfl, (by show 1 ≤ 1000; decide), hC, ha, last⟩⟩
    rw [PySem.Str.length_append]
    exact Nat.le_trans (Nat.add_le_add (show _ ≤ 1000 by decide +kernel) hm) (by decide)
theorem own_NoRooms {C0 C fI : Addr} {fd : FuncData} (T : Own K mg "NoRooms" C fI) (F : Fun K "__init__" "NoRooms.__init__" sI_NoRooms fI fd) (T0 : InnC K mg C0) : OwnW P w K mg base "NoRooms" C :=
  ⟨fI, fd, T, fo_NoRooms F T0, F.binds fun _ _ _ _ _ _ us hl => match us, hl with | [_, _], _ => rfl⟩
end
end El
namespace El
open PySem PySem.Spec PyProof.Rows L2
section
variable {P : Program} {w : World} {K : PySem.W.Frag} {mg : Str → Option Value} {base : Heap}
abbrev sI_NoRoom : Stmt := inClass (topS 4) 0
theorem scI_NoRoom : FnScope ["self", "what"] ["self", "what"] (defScope sI_NoRoom) := ⟨rfl, rfl, rfl, by decide +kernel, rfl, by decide +kernel, by decide +kernel⟩
theorem fo_NoRoom {C0 fI : Addr} {fd : FuncData} (F : Fun K "__init__" "NoRoom.__init__" sI_NoRoom fI fd) (T0 : InnC K mg C0) : FnOk P w K mg base CX0 1 fI fd ["self", "what"] (sp_initW K) := by
  refine F.ok scI_NoRoom (fun vs H Q E h => ?_) (fun cdv AA outer s H vs Q E hr h => ?_)
  · obtain ⟨_, _, _, rfl, _⟩ := h
    rfl
  · obtain ⟨a, D, v, rfl, hC, hw, ha, hv, q⟩ := h
    have nd := scI_NoRoom.nd
    refine ⟨_, pss_cons (ps_expr (pe_ownI T0 (pa_cons (pv 0) (pa_cons (pe_joined (.cons pe_str (.cons (pe_fmtW hr (pv 1)) .nil))) pa_nil)))) (pss_one (ps_ost (pv 0) (pv 1))), ?_⟩
    refine ⟨.ref a, rfl, ?_⟩
    have last : tOst K "what" (tVar 0) (tVar 1) { nx := fun _ H' => Q .non H', rt := Q } [some (.ref a), some v] H := ⟨v, rfl, .ref a, rfl, a, D, rfl, hC, hw, .inl ⟨ha, q⟩⟩
    refine ⟨_, rfl, (by show _ ≤ sizeLine; decide +kernel), v, rfl, hv, fun m hm => ⟨_, rfl, ?_, a, D, _, rfl, (by show 1 ≤ 1000; decide), hC, ha, last⟩⟩
    rw [PySem.Str.length_append]
    exact Nat.le_trans (Nat.add_le_add (show _ ≤ 1000 by decide +kernel) hm) (by decide)
theorem own_NoRoom {C0 C fI : Addr} {fd : FuncData} (T : Own K mg "NoRoom" C fI) (F : Fun K "__init__" "NoRoom.__init__" sI_NoRoom fI fd) (T0 : InnC K mg C0) : OwnW P w K mg base "NoRoom" C :=
  ⟨fI, fd, T, fo_NoRoom F T0, F.binds fun _ _ _ _ _ _ us hl => match us, hl with | [_, _], _ => rfl⟩
end
end El
namespace El
open PySem PySem.Spec PyProof.Rows L2
section
variable {P : Program} {w : World} {K : PySem.W.Frag} {mg : Str → Option Value} {base : Heap}
abbrev sI_NoCrowd : Stmt := inClass (topS 5) 0
theorem scI_NoCrowd : FnScope ["self", "what"] ["self", "what"] (defScope sI_NoCrowd) := ⟨rfl, rfl, rfl, by decide +kernel, rfl, by decide +kernel, by decide +kernel⟩
theorem fo_NoCrowd {C0 fI : Addr} {fd : FuncData} (F : Fun K "__init__" "NoCrowd.__init__" sI_NoCrowd fI fd) (T0 : InnC K mg C0) : FnOk P w K mg base CX0 1 fI fd ["self", "what"] (sp_initW K) := by
  refine F.ok scI_NoCrowd (fun vs H Q E h => ?_) (fun cdv AA outer s H vs Q E hr h => ?_)
  · obtain ⟨_, _, _, rfl, _⟩ := h
    rfl
  · obtain ⟨a, D, v, rfl, hC, hw, ha, hv, q⟩ := h
    have nd := scI_NoCrowd.nd
    refine ⟨_, pss_cons (ps_expr (pe_ownI T0 (pa_cons (pv 0) (pa_cons (pe_joined (.cons pe_str (.cons (pe_fmtW hr (pv 1)) .nil))) pa_nil)))) (pss_one (ps_ost (pv 0) (pv 1))), ?_⟩
    refine ⟨.ref a, rfl, ?_⟩
    have last : tOst K "what" (tVar 0) (tVar 1) { nx := fun _ H' => Q .non H', rt := Q } [some (.ref a), some v] H := ⟨v, rfl, .ref a, rfl, a, D, rfl, hC, hw, .inl ⟨ha, q⟩⟩
    refine ⟨_, rfl, (by show _ ≤ sizeLine; decide +kernel), v, rfl, hv, fun m hm => ⟨_, rfl, ?_, a, D, _, rfl, (by show 1 ≤ 1000; decide), hC, ha, last⟩⟩
    rw [PySem.Str.length_append]
    exact Nat.le_trans (Nat.add_le_add (show _ ≤ 1000 by decide +kernel) hm) (by decide)
theorem own_NoCrowd {C0 C fI : Addr} {fd : FuncData} (T : Own K mg "NoCrowd" C fI) (F : Fun K "__init__" "NoCrowd.__init__" sI_NoCrowd fI fd) (T0 : InnC K mg C0) : OwnW P w K mg base "NoCrowd" C :=
  ⟨fI, fd, T, fo_NoCrowd F T0, F.binds fun _ _ _ _ _ _ us hl => match us, hl with | [_, _], _ => rfl⟩
end
end El
namespace El
open PySem PySem.Spec PyProof.Rows L2
section
variable {P : Program} {w : World} {K : PySem.W.Frag} {mg : Str → Option Value} {base : Heap}
abbrev sI_NoText : Stmt := inClass (topS 6) 0
theorem scI_NoText : FnScope ["self", "what"] ["self", "what"] (defScope sI_NoText) := ⟨rfl, rfl, rfl, by decide +kernel, rfl, by decide +kernel, by decide +kernel⟩
theorem fo_NoText {C0 fI : Addr} {fd : FuncData} (F : Fun K "__init__" "NoText.__init__" sI_NoText fI fd) (T0 : InnC K mg C0) : FnOk P w K mg base CX0 1 fI fd ["self", "what"] (sp_initW K) := by
  refine F.ok scI_NoText (fun vs H Q E h => ?_) (fun cdv AA outer s H vs Q E hr h => ?_)
  · obtain ⟨_, _, _, rfl, _⟩ := h
    rfl
  · obtain ⟨a, D, v, rfl, hC, hw, ha, hv, q⟩ := h
    have nd := scI_NoText.nd
    refine ⟨_, pss_cons (ps_expr (pe_ownI T0 (pa_cons (pv 0) (pa_cons (pe_joined (.cons pe_str (.cons (pe_fmtW hr (pv 1)) .nil))) pa_nil)))) (pss_one (ps_ost (pv 0) (pv 1))), ?_⟩
    refine ⟨.ref a, rfl, ?_⟩
    have last : tOst K "what" (tVar 0) (tVar 1) { nx := fun _ H' => Q .non H', rt := Q } [some (.ref a), some v] H := ⟨v, rfl, .ref a, rfl, a, D, rfl, hC, hw, .inl ⟨ha, q⟩⟩
    refine ⟨_, rfl, (by show _ ≤ sizeLine; decide +kernel), v, rfl, hv, fun m hm => ⟨_, rfl, ?_, a, D, _, rfl, (by show 1 ≤ 1000; decide), hC, ha, last⟩⟩
    rw [PySem.Str.length_append]
    exact Nat.le_trans (Nat.add_le_add (show _ ≤ 1000 by decide +kernel) hm) (by decide)
theorem own_NoText {C0 C fI : Addr} {fd : FuncData} (T : Own K mg "NoText" C fI) (F : Fun K "__init__" "NoText.__init__" sI_NoText fI fd) (T0 : InnC K mg C0) : OwnW P w K mg base "NoText" C :=
  ⟨fI, fd, T, fo_NoText F T0, F.binds fun _ _ _ _ _ _ us hl => match us, hl with | [_, _], _ => rfl⟩
end
end El
namespace El
open PySem PySem.Spec PyProof.Rows L2
section
variable {P : Program} {w : World} {K : PySem.W.Frag} {mg : Str → Option Value} {base : Heap}
theorem ownK_NoRoom {C0 C fI : Addr} {fd : FuncData} (T : Own K mg "NoRoom" C fI) (F : Fun K "__init__" "NoRoom.__init__" sI_NoRoom fI fd) (T0 : InnC K mg C0) : OwnK P w K mg base "NoRoom" C := by
  refine ⟨fI, fd, T, fo_NoRoom F T0, fun s me u => ?_⟩
  obtain ⟨oc, od, kV, doc, pm, an, cdv, ct, osl, rfl, _⟩ := F.ex
  exact .of_eq rfl
end
end El
namespace El
open PySem PySem.Spec PyProof.Rows L2
section
variable {P : Program} {w : World} {K : PySem.W.Frag} {mg : Str → Option Value} {base : Heap}
theorem ownK_NoText {C0 C fI : Addr} {fd : FuncData} (T : Own K mg "NoText" C fI) (F : Fun K "__init__" "NoText.__init__" sI_NoText fI fd) (T0 : InnC K mg C0) : OwnK P w K mg base "NoText" C := by
  refine ⟨fI, fd, T, fo_NoText F T0, fun s me u => ?_⟩
  obtain ⟨oc, od, kV, doc, pm, an, cdv, ct, osl, rfl, _⟩ := F.ex
  exact .of_eq rfl
end
end El
namespace El
open PySem PySem.Spec PyProof.Rows L2
/-- [x for x in A if f(x)] -/
theorem lc_sel {K : PySem.W.Frag} {a D : Addr} {A : List Int} {i : Nat} {tt : TT} {te : TE} {vs : List Nat} {σ : L2.St} {H1 : Hp} {Qd : Hp → Prop} (f : Int → Bool) (hA : H1 a = some (.lst (A.map V.int))) (hD : H1 D = none) (hl : A.length ≤ 1000)
    (ht : ∀ (z : Int) (H' : Hp) (Q : Bool → Hp → Prop), Q (f z) H' → tt ((wipe σ vs).set i (some (.int z))) H' Q)
    (he : ∀ (z : Int) (H' : Hp) (Q : VK), Q (.int z) H' → te ((wipe σ vs).set i (some (.int z))) H' Q) (hw : ∀ z : Int, wipe ((wipe σ vs).set i (some (.int z))) vs = wipe σ vs)
    (hd : ∀ H2, Same H1 H2 → H2 D = some (.lst ((A.filter f).map V.int)) → Qd H2) :
    ∃ W : Nat → Nat → Hp → Prop, (∃ m, W 0 m (upd H1 D (.lst []))) ∧ ∀ k m H, W k m H →
      ((Itl K a).stop k H ∧ Qd H) ∨ ((Itl K a).go k H ∧ ∃ Nx : Hp → Prop, (∀ H', Nx H' → ∃ m', m' < m ∧ W (k + 1) m' H') ∧ ∀ x H', (Itl K a).yld k H x H' → gName i x (wipe σ vs) H' fun σ2 H2 => wipe σ2 vs = wipe σ vs ∧ tt σ2 H2 fun b H3 =>
        if b = true then te σ2 H3 fun y H4 => ∃ acc, H4 D = some (.lst acc) ∧ acc.length < sizeLine ∧ Nx (upd H4 D (.lst (acc ++ [y]))) else Nx H3) := by
  refine lc_it (walk_list (xs := A.map V.int)) (fun k H2 => Same H1 H2 ∧ H2 D = some (.lst (((A.take k).filter f).map V.int))) ⟨same_new hD, upd_same⟩ (fun k H2 _ hW => SqL.of (hW.1 _ _ hA)) (fun k x H2 H3 hk hW hY => ?_) (fun H2 hW => ?_)
  · obtain ⟨sm, e⟩ := hW
    obtain ⟨rfl, hx⟩ := hY
    obtain ⟨z, ez, rfl⟩ := ints_at hx
    refine ⟨hw z, ht z H3 _ ?_⟩
    have hlb : ((A.take k).filter f).length ≤ 1000 := by
      refine Nat.le_trans (List.length_filter_le _ _) ?_
      rw [List.length_take]
      omega
    have es : (A.take (k + 1)).filter f = (A.take k).filter f ++ if f z = true then [z] else [] := by
      rw [take_snoc ez, List.filter_append, List.filter_cons, List.filter_nil]
    split
    · rename_i hb
      refine he z H3 _ ⟨_, e, ils (by rw [List.length_map]; omega), Same.mut sm hD, ?_⟩
      rw [upd_same, es, if_pos hb, List.map_append]
      rfl
    · rename_i hb
      refine ⟨sm, ?_⟩
      rw [es, if_neg hb, List.append_nil]
      exact e
  · obtain ⟨sm, e⟩ := hW
    rw [List.length_map, List.take_length] at e
    exact hd H2 sm e
/-- the same, where the test may make something -/
theorem lc_selG {K : PySem.W.Frag} {a D : Addr} {A : List Int} {i : Nat} {tt : TT} {te : TE} {vs : List Nat} {σ : L2.St} {H1 : Hp} {Qd : Hp → Prop} (f : Int → Bool) (hA : H1 a = some (.lst (A.map V.int))) (hD : H1 D = none) (hl : A.length ≤ 1000)
    (ht : ∀ (z : Int) (H' : Hp) (Q : Bool → Hp → Prop), Same H1 H' → (∀ H'', Same H' H'' → Q (f z) H'') → tt ((wipe σ vs).set i (some (.int z))) H' Q)
    (he : ∀ (z : Int) (H' : Hp) (Q : VK), Q (.int z) H' → te ((wipe σ vs).set i (some (.int z))) H' Q) (hw : ∀ z : Int, wipe ((wipe σ vs).set i (some (.int z))) vs = wipe σ vs)
    (hd : ∀ H2, Same H1 H2 → H2 D = some (.lst ((A.filter f).map V.int)) → Qd H2) :
    ∃ W : Nat → Nat → Hp → Prop, (∃ m, W 0 m (upd H1 D (.lst []))) ∧ ∀ k m H, W k m H →
      ((Itl K a).stop k H ∧ Qd H) ∨ ((Itl K a).go k H ∧ ∃ Nx : Hp → Prop, (∀ H', Nx H' → ∃ m', m' < m ∧ W (k + 1) m' H') ∧ ∀ x H', (Itl K a).yld k H x H' → gName i x (wipe σ vs) H' fun σ2 H2 => wipe σ2 vs = wipe σ vs ∧ tt σ2 H2 fun b H3 =>
        if b = true then te σ2 H3 fun y H4 => ∃ acc, H4 D = some (.lst acc) ∧ acc.length < sizeLine ∧ Nx (upd H4 D (.lst (acc ++ [y]))) else Nx H3) := by
  refine lc_it (walk_list (xs := A.map V.int)) (fun k H2 => Same H1 H2 ∧ H2 D = some (.lst (((A.take k).filter f).map V.int))) ⟨same_new hD, upd_same⟩ (fun k H2 _ hW => SqL.of (hW.1 _ _ hA)) (fun k x H2 H3 hk hW hY => ?_) (fun H2 hW => ?_)
  · obtain ⟨sm, e⟩ := hW
    obtain ⟨rfl, hx⟩ := hY
    obtain ⟨z, ez, rfl⟩ := ints_at hx
    refine ⟨hw z, ht z H3 _ sm fun H4 s4 => ?_⟩
    have hlb : ((A.take k).filter f).length ≤ 1000 := by
      refine Nat.le_trans (List.length_filter_le _ _) ?_
      rw [List.length_take]
      omega
    have es : (A.take (k + 1)).filter f = (A.take k).filter f ++ if f z = true then [z] else [] := by
      rw [take_snoc ez, List.filter_append, List.filter_cons, List.filter_nil]
    split
    · rename_i hb
      refine he z H4 _ ⟨_, s4 _ _ e, ils (by rw [List.length_map]; omega), Same.mut (sm.trans s4) hD, ?_⟩
      rw [upd_same, es, if_pos hb, List.map_append]
      rfl
    · rename_i hb
      refine ⟨sm.trans s4, ?_⟩
      rw [es, if_neg hb, List.append_nil]
      exact s4 _ _ e
  · obtain ⟨sm, e⟩ := hW
    rw [List.length_map, List.take_length] at e
    exact hd H2 sm e
end El
namespace El
open PySem PySem.Spec PyProof.Rows L2
section
variable {P : Program} {w : World} {K : PySem.W.Frag} {mg : Str → Option Value} {base : Heap}
abbrev s_check_newcomer : Stmt := topS 8
abbrev N_check_newcomer : List Str := ["patience_of", "age", "patience"]
abbrev P_check_newcomer : List Str := ["patience_of", "age", "patience"]
theorem sc_check_newcomer : FnScope N_check_newcomer P_check_newcomer (defScope s_check_newcomer) := ⟨rfl, rfl, rfl, by decide +kernel, rfl, by decide +kernel, by decide +kernel⟩
def sp_check_newcomer : Sp := fun vs H Q _ => ∃ (d : Addr) (gs : List (Int × Int)) (a p : Int), vs = [.ref d, .int a, .int p] ∧ H d = some (.dK (pks gs)) ∧ a ∉ gs.map (·.1) ∧ 0 ≤ p ∧ Q .non H
theorem ok_check_newcomer (A : At K mg "check_newcomer" P_check_newcomer s_check_newcomer) : Df P w K mg base 1 "check_newcomer" P_check_newcomer s_check_newcomer sp_check_newcomer := by
  refine A.df fun f fd F => F.ok sc_check_newcomer (fun vs H Q E h => ?_) (fun cdv AA outer s H vs Q E hr h => ?_)
  · obtain ⟨_, _, _, _, rfl, _⟩ := h
    rfl
  · obtain ⟨d, gs, a, p, rfl, hd, ha, hp, q⟩ := h
    have nd := sc_check_newcomer.nd
    refine ⟨_, (pss_one (ps_if (PW.pt (pw_or (pt_cmpR op_lt (pv 2) pe_int (nomark _)) (pw_or1 (pt_cmp (pc_din (hu_of hr) (pv 1) (pv 0)))))) (pss_one ps_never) pss_nil)), ?_⟩
    refine ⟨.int p, rfl, _, _, rfl, rfl, _, rfl, ?_⟩
    rw [decide_eq_false (by omega)]
    refine iteF ?_
    refine ⟨.int a, rfl, .ref d, rfl, d, _, rfl, DGet.k (k := Sum.inl a) hd, _, rfl, ?_⟩
    rw [pks_none ha]
    exact iteF q
end
end El
namespace El
open PySem PySem.Spec PyProof.Rows L2
def sp_check_newcomer_b (CG : Addr) : Sp := fun vs H _ E => ∃ (d : Addr) (gs : List (Int × Int)) (x y : Int), vs = [.ref d, .int x, .int y] ∧ H d = some (.dK (pks gs)) ∧ (y < 0 ∨ x ∈ gs.map (·.1)) ∧ (gs.map (·.1)).Nodup ∧ x.natAbs < 10 ^ 200 ∧ y.natAbs < 10 ^ 200 ∧
  ∀ H' d t, Same H H' → H' d = some (.xd [(("what" : Str), .ref t)]) → H' t = some (.tup [.int x, .int y]) → E (.ref CG) (some d) H'
section
variable {P : Program} {w : World} {K : PySem.W.Frag} {mg : Str → Option Value} {base : Heap}
theorem okb_check_newcomer {CG : Addr} (A : At K mg "check_newcomer" P_check_newcomer s_check_newcomer) (E_NoGuest : OwnW P w K mg base "NoGuest" CG) : DfX P w K mg base 3 "check_newcomer" P_check_newcomer s_check_newcomer (sp_check_newcomer_b CG) := by
  refine A.dfx fun f fd F => F.okX sc_check_newcomer (fun vs H Q E h => ?_) (fun cdv AA outer s H vs Q E hr h => ?_)
  · obtain ⟨_, _, _, _, rfl, _⟩ := h
    rfl
  · obtain ⟨d, gs, x, y, rfl, hd, hb, hn, hx, hy, q⟩ := h
    have nd := sc_check_newcomer.nd
    refine ⟨_, (pss_one (ps_if (PW.pt (pw_or (pt_cmpR op_lt (pv 2) pe_int (nomark _)) (pw_or1 (pt_cmp (pc_din (hu_of hr) (pv 1) (pv 0)))))) (pss_one (ps_raiseW E_NoGuest (hr.mono (by decide)) rfl (takes_of rfl rfl rfl rfl) (pa_cons (pe_tup (pa_cons (pv 1) (pa_cons (pv 2) pa_nil))) pa_nil) (by rfl))) pss_nil)), ?_⟩
    have raised : tRaiseW CG (fun cls d' σ H => E cls d' H) (tCons (tTup (tCons (tVar 1) (tCons (tVar 2) tNil))) tNil) { nx := fun _ H' => Q .non H', rt := Q } [some (.ref d), some (.int x), some (.int y)] H := by
      refine ⟨.int x, rfl, .int y, rfl, (by show 2 ≤ sizeLine; decide), fun t nt => ⟨.ref t, rfl, .inr (.inr ⟨t, x, y, rfl, upd_same, hx, hy⟩), fun d' nd' => ?_⟩⟩
      exact q _ d' t ((same_new nt).trans (same_new nd')) upd_same (same_new nd' _ _ upd_same)
    refine ⟨.int y, rfl, _, _, rfl, rfl, _, rfl, ?_⟩
    by_cases hneg : y < 0
    · rw [decide_eq_true hneg]
      exact iteT raised
    · rw [decide_eq_false hneg]
      refine iteF ⟨.int x, rfl, .ref d, rfl, d, _, rfl, DGet.k (k := Sum.inl x) hd, _, rfl, ?_⟩
      have hin := hb.resolve_left hneg
      rw [pks_get hn hin]
      exact iteT raised
end
end El
namespace El
open PySem PySem.Spec PyProof.Rows L2
section
variable {P : Program} {w : World} {K : PySem.W.Frag} {mg : Str → Option Value} {base : Heap}
abbrev s_eldest_upset : Stmt := topS 10
abbrev N_eldest_upset : List Str := ["patience_of", "room", "elders", "age"]
abbrev P_eldest_upset : List Str := ["patience_of", "room"]
theorem sc_eldest_upset : FnScope N_eldest_upset P_eldest_upset (defScope s_eldest_upset) := ⟨rfl, rfl, rfl, by decide +kernel, rfl, by decide +kernel, by decide +kernel⟩
/-- the value told -/
def upV : Option Int → V
  | some a => .int a
  | none => .non
def sp_eldest_upset : Sp := fun vs H Q _ => ∃ (d o : Addr) (ns : List Int) (gs : List (Int × Int)), vs = [.ref d, .ref o] ∧ H d = some (.dK (pks gs)) ∧ H o = some (.lst (ns.map V.int)) ∧ (∀ a ∈ ns, a ∈ gs.map (·.1)) ∧ (gs.map (·.1)).Nodup ∧ ns.length ≤ 1000 ∧
  ∀ H', Same H H' → Q (upV (eldUp gs ns)) H'
theorem ok_eldest_upset (A : At K mg "eldest_upset" P_eldest_upset s_eldest_upset) (B : Bi mg) : Df P w K mg base 1 "eldest_upset" P_eldest_upset s_eldest_upset sp_eldest_upset := by
  refine A.df fun f fd F => F.ok sc_eldest_upset (fun vs H Q E h => ?_) (fun cdv AA outer s H vs Q E hr h => ?_)
  · obtain ⟨_, _, _, _, rfl, _⟩ := h
    rfl
  · obtain ⟨d, o, ns, gs, rfl, hd, ho, hm, hn, hl, q⟩ := h
    have nd := sc_eldest_upset.nd
    refine ⟨_, (pss_cons (ps_for PassesOwn.never rfl (pi_enum (by rfl) B.enumerate (pa_cons (pe_callBK (cr_sortedRev (b := true)) (by rfl) B.sorted (by decide +kernel) (pa_cons (pv 1) pa_nil) (pk_cons pe_bl pk_nil)) pa_nil)) (pg_tup (by rfl) (pgs_cons (pg_name (i := 2) nd rfl (.inl rfl)) (pgs_cons (pg_name (i := 3) nd rfl (.inl rfl)) pgs_nil))) (pss_one (ps_if (pt_cmpR op_gt (pv 2) (pe_dget (hu_of hr) (pv 0) (pv 3) (fun _ _ => rfl)) (nomark _)) (pss_one (ps_ret (pv 3))) pss_nil)))
    (pss_one (ps_ret pe_non))), ?_⟩
    refine ⟨.ref o, rfl, o, ns, rfl, rfl, SqL.of ho, fun ms p hp hs np => ?_⟩
    have hms : ms = down ns := down_is hp hs
    subst hms
    refine ⟨p, _, rfl, SqL.of upd_same, ?_⟩
    have sm1 : Same H (upd H p (.lst ((down ns).map V.int))) := same_new np
    have ep : upd H p (.lst ((down ns).map V.int)) p = some (.lst ((down ns).map V.int)) := upd_same
    revert sm1 ep
    generalize upd H p (.lst ((down ns).map V.int)) = H1
    intro sm1 ep
    refine for_it (walk_enum (xs := (down ns).map V.int)) (fun i σ H2 => ∃ y2 y3, σ = [some (.ref d), some (.ref o), y2, y3] ∧ Same H1 H2 ∧ ∀ (j : Nat) (b : Int), j < i → (down ns)[j]? = some b → (j : Int) ≤ pof gs b)
      ⟨none, none, rfl, Same.refl _, fun j b h => absurd h (Nat.not_lt_zero _)⟩ (fun i σ H2 _ hW => ?_) (fun i x σ H2 H3 hi hW hY => ?_) (fun σ H2 hW => ?_)
    · obtain ⟨_, _, _, sm, _⟩ := hW
      exact SqL.of (sm _ _ ep)
    · obtain ⟨y2, y3, rfl, sm, hb⟩ := hW
      obtain ⟨T, x1, x2, rfl, nT, rfl, f1, f2⟩ := hY
      obtain rfl : V.int ↑i = x1 := Option.some.inj f1
      obtain ⟨a, ea, rfl⟩ := ints_at f2
      have s3 : Same H2 (upd H2 T (.tup [.int i, .int a])) := same_new nT
      refine ⟨T, [.int i, .int a], rfl, SqT.of upd_same, rfl, .int i, [.int a], rfl, .int a, [], rfl, rfl, ?_⟩
      have sm3 : Same H (upd H2 T (.tup [.int i, .int a])) := sm1.trans (sm.trans s3)
      have ha : a ∈ gs.map (·.1) := hm a ((down_perm ns).mem_iff.mp (List.mem_of_getElem? ea))
      refine ⟨.int i, rfl, .ref d, rfl, .int a, rfl, d, _, rfl, dget_pof (sm3 _ _ hd) hn ha, _, _, rfl, rfl, _, rfl, ite2 (fun e => ?_) (fun e => ?_)⟩
      · have e := of_decide_eq_true e
        have hu : eldUp gs ns = some a := upIn_at ea (fun j b hj eb => by have := hb j b hj eb; omega) (by omega)
        have z := q _ sm3
        rw [hu] at z
        exact ⟨.int a, rfl, z⟩
      · have e : ¬ (pof gs a < (i : Int)) := fun z => e (decide_eq_true z)
        refine ⟨_, _, rfl, sm.trans s3, fun j b hj eb => ?_⟩
        by_cases h : j < i
        · exact hb j b h eb
        · have : j = i := by omega
          subst this
          obtain rfl : a = b := Option.some.inj (ea.symm.trans eb)
          omega
    · obtain ⟨y2, y3, rfl, sm, hb⟩ := hW
      have hu : eldUp gs ns = none := upIn_none fun i a e => by
        have := hb i a (by rw [List.length_map]; exact at_lt e) e
        omega
      have z := q _ (sm1.trans sm)
      rw [hu] at z
      exact z
end
end El
namespace El
open PySem PySem.Spec PyProof.Rows L2
section
variable {P : Program} {w : World} {K : PySem.W.Frag} {mg : Str → Option Value} {base : Heap}
abbrev s_Inn___init__ : Stmt := inClass (topS 12) 0
abbrev N_Inn___init__ : List Str := ["self"]
abbrev P_Inn___init__ : List Str := ["self"]
theorem sc_Inn___init__ : FnScope N_Inn___init__ P_Inn___init__ (defScope s_Inn___init__) := ⟨rfl, rfl, rfl, by decide +kernel, rfl, by decide +kernel, by decide +kernel⟩
def sp_Inn___init__ (C : Addr) : Sp := fun vs H Q _ => ∃ (p dx : Addr), vs = [.ref p] ∧ H p = some (.ins C dx []) ∧ ∀ (d o : Addr) (H' : Hp), H d = none → H o = none → InnAt C H' (fun b => b = p ∨ H b = none) p d o [] [] [] → Kp (fun b => b ≠ p) H H' → Q .non H'
theorem ok_Inn___init__ {f C : Addr} {fd : FuncData} (F : Fun K "__init__" "Inn.__init__" s_Inn___init__ f fd) (T : InnT K mg C) : FnOk P w K mg base CX0 1 f fd P_Inn___init__ (sp_Inn___init__ C) := by
  refine F.ok sc_Inn___init__ (fun vs H Q E h => ?_) (fun cdv A outer s H vs Q E hr h => ?_)
  · obtain ⟨p, dx, rfl, _⟩ := h
    rfl
  · obtain ⟨p, dx, rfl, hp, q⟩ := h
    have nd := sc_Inn___init__.nd
    refine ⟨_, (pss_cons (ps_fld (pv 0) pe_dnewK rfl)
    (pss_one (ps_fld (pv 0) (pe_lst pa_nil) rfl))), ?_⟩
    intro d hd
    have npd : p ≠ d := ne_of_none hp hd
    refine ⟨_, rfl, p, C, dx, [], rfl, (by rw [upd_ne npd]; exact hp), T.cl, T.nP, (by show 0 < 1000; decide), ?_⟩
    refine ⟨Nat.zero_le _, fun o no => ?_⟩
    have npo : p ≠ o := ne_of_none (o := .ins C dx (putF "_patience_of" (.ref d) [])) upd_same no
    have ndo : d ≠ o := fun z => by
      rw [← z, upd_ne npd.symm, upd_same] at no
      cases no
    have no' : H o = none := by
      rw [upd_ne npo.symm, upd_ne ndo.symm] at no
      exact no
    refine ⟨_, rfl, p, C, dx, _, rfl, (by rw [upd_ne npo]; exact upd_same), T.cl, T.nR, (by show 1 < 1000; decide), ?_⟩
    refine q d o _ hd no' ⟨⟨dx, upd_same⟩, ?_, RmsAt.nil ?_ (.inr no'), .inl rfl, .inr hd⟩ fun b u hb e => ?_
    · rw [upd_ne npd.symm, upd_ne ndo, upd_ne npd.symm, upd_same]
      rfl
    · rw [upd_ne npo.symm, upd_same]
    · rw [upd_ne hb, upd_ne (ne_of_none e no'), upd_ne hb, upd_ne (ne_of_none e hd)]
      exact e
end
end El
namespace El
open PySem PySem.Spec PyProof.Rows L2
section
variable {P : Program} {w : World} {K : PySem.W.Frag} {mg : Str → Option Value} {base : Heap}
abbrev s_Inn__enter : Stmt := inClass (topS 12) 11
abbrev N_Inn__enter : List Str := ["self", "age", "number"]
abbrev P_Inn__enter : List Str := ["self", "age", "number"]
theorem sc_Inn__enter : FnScope N_Inn__enter P_Inn__enter (defScope s_Inn__enter) := ⟨rfl, rfl, rfl, by decide +kernel, rfl, by decide +kernel, by decide +kernel⟩
/-- only the list of the rooms is changed, all else is new -/
def sp_Inn__enter (C : Addr) : Sp := fun vs H Q _ => ∃ (B : Addr → Prop) (p d o : Addr) (ts : List Addr) (gs : List (Int × Int)) (rs : List (List Int)) (a : Int) (i : Nat), vs = [.ref p, .int a, .int i] ∧ InnAt C H B p d o ts gs rs ∧ i ≤ rs.length ∧ rs.length ≤ 1000 ∧ (∀ r ∈ rs, r.length ≤ 1000) ∧
  ∀ H' ts', RmsAt H' (fun b => B b ∨ H b = none) o ts' (enterR rs i a) → Kp (fun b => b ≠ o) H H' → Q .non H'
theorem ok_Inn__enter {C : Addr} (A : Ma K C "_enter" "Inn._enter" P_Inn__enter s_Inn__enter) (B : Bi mg) (T : InnT K mg C) : Mf P w K mg base 1 C "_enter" "Inn._enter" P_Inn__enter s_Inn__enter (sp_Inn__enter C) := by
  refine A.mf fun f fd F => F.ok sc_Inn__enter (fun vs H Q E h => ?_) (fun cdv AA outer s H vs Q E hr h => ?_)
  · obtain ⟨_, _, _, _, _, _, _, _, _, rfl, _⟩ := h
    rfl
  · obtain ⟨BB, p, d, o, ts, gs, rs, a, i, rfl, hI, hi, hl, hm, q⟩ := h
    have nd := sc_Inn__enter.nd
    refine ⟨_, (pss_cons (ps_if (pt_cmpR op_eq (pv 2) (pe_callB call_len_seq (by rfl) B.len PySem.boot_len (pa_cons (pe_fld (pv 0) rfl) pa_nil)) (nomark _)) (pss_one (ps_expr (pe_bm PySem.F.plainAttrs_list PySem.F.slot_list_append PySem.F.type_list_append mt_append (pe_fld (pv 0) rfl) (pa_cons (pe_lst pa_nil) pa_nil)))) pss_nil)
    (pss_one (ps_asg (pe_callBK (cr_sortedRev (b := true)) (by rfl) B.sorted (by decide +kernel) (pa_cons (pe_op op_cat (pe_ix ix_list (pe_fld (pv 0) rfl) (pv 2) (fun _ _ => rfl)) (pe_lst (pa_cons (pv 1) pa_nil))) pa_nil) (pk_cons pe_bl pk_nil)) (pg_sub (pe_fld (pv 0) rfl) (pv 2) set_list)))), ?_⟩
    obtain ⟨dx, hp⟩ := hI.ob
    have hR := hI.rm.weaken (B' := fun b => BB b ∨ H b = none) fun b z => .inl z
    refine seq_to (fun σ H1 => σ = [some (.ref p), some (.int a), some (.int i)] ∧ Kp (fun b => b ≠ o) H H1 ∧ ∃ ts1 rs1 r, RmsAt H1 (fun b => BB b ∨ H b = none) o ts1 rs1 ∧ rs1[i]? = some r ∧ r.length ≤ 1000 ∧ enterR rs i a = rs1.set i (down (r ++ [a]))) (fun X hX => ?_) (fun σ H1 hE => ?_)
    · refine ⟨_, rfl, _, rfl, p, C, dx, _, _, rfl, hp, T.cl, T.nR, iflds_r _ _, o, _, rfl, .inl hI.rm.seq, rfl, _, rfl, ite2 (fun e => ?_) (fun e => ?_)⟩
      · have e := V.int.inj (of_decide_eq_true e)
        rw [List.length_map, hI.rm.len] at e
        have e : i = rs.length := by omega
        refine ⟨_, rfl, p, C, dx, _, _, rfl, hp, T.cl, T.nR, iflds_r _ _, .inl ⟨rfl, _, hI.rm.seq⟩, Nat.zero_le _, fun u nu => ?_⟩
        have nuo : o ≠ u := ne_of_none hI.rm.top nu
        refine ⟨o, _, _, rfl, rfl, (by rw [upd_ne nuo]; exact hI.rm.top), ils (by rw [List.length_map, hI.rm.len]; omega), ?_⟩
        refine hX _ _ ⟨rfl, Kp.mut (Kp.new Kp.refl nu) (fun z => z rfl), _, _, [], hR.push (r := []) nu (.inr nu), ?_, Nat.zero_le _, ?_⟩
        · rw [e, List.getElem?_append_right (Nat.le_refl _), Nat.sub_self]
          rfl
        · rw [e, enterR_new, List.set_append_right _ _ (Nat.le_refl _), Nat.sub_self]
          have e1 : down ([] ++ [a]) = [a] := (down_is (.refl _) (List.pairwise_singleton _ _)).symm
          rw [e1]
          rfl
      · have hlt : i < rs.length := by
          rcases Nat.lt_or_ge i rs.length with z | z
          · exact z
          · exfalso
            refine e (decide_eq_true ?_)
            rw [List.length_map, hI.rm.len]
            congr 1
            omega
        obtain ⟨r, er⟩ := at_some hlt
        exact hX _ _ ⟨rfl, Kp.refl, ts, rs, r, hR, er, hm r (List.mem_of_getElem? er), enterR_old a er⟩
    · obtain ⟨rfl, k1, ts1, rs1, r, hR1, er, hr1, ee⟩ := hE
      have hp1 := k1 _ _ hI.po hp
      obtain ⟨t, et, eh⟩ := hR1.of er
      have hi1 : i < rs1.length := at_lt er
      -- self._rooms[number] + [age]
      refine ⟨_, rfl, p, C, dx, _, _, rfl, hp1, T.cl, T.nR, iflds_r _ _, _, rfl, o, _, _, .ref t, rfl, rfl, SqL.of hR1.top, atI_nat (j := i) ?_, ?_⟩
      · rw [List.getElem?_map, et]
        rfl
      refine ⟨_, rfl, (by show 1 ≤ _; decide +kernel), fun u nu => ?_⟩
      have ntu : t ≠ u := ne_of_none eh nu
      refine ⟨t, u, _, _, rfl, rfl, (by rw [upd_ne ntu]; exact eh), upd_same, (by rw [List.length_map]; exact Nat.le_of_lt (ils (n := r.length + 1) (by omega))), fun v nv => ?_⟩
      have ev : r.map V.int ++ [V.int a] = (r ++ [a]).map V.int := by
        rw [List.map_append]
        rfl
      rw [ev]
      refine ⟨v, r ++ [a], rfl, rfl, SqL.of upd_same, fun ms z hp2 hs nz => ?_⟩
      have hms : ms = down (r ++ [a]) := down_is hp2 hs
      subst hms
      have s1 : Same H1 (upd (upd (upd H1 u (.lst [.int a])) v (.lst ((r ++ [a]).map V.int))) z (.lst ((down (r ++ [a])).map V.int))) := (same_new nu).trans ((same_new nv).trans (same_new nz))
      have nz1 : H1 z = none := ((same_new (o := .lst [.int a]) nu).trans (same_new nv)).free nz
      have ez : upd (upd (upd H1 u (.lst [.int a])) v (.lst ((r ++ [a]).map V.int))) z (.lst ((down (r ++ [a])).map V.int)) z = some (.lst ((down (r ++ [a])).map V.int)) := upd_same
      revert s1 ez
      generalize upd (upd (upd H1 u (.lst [.int a])) v (.lst ((r ++ [a]).map V.int))) z (.lst ((down (r ++ [a])).map V.int)) = H2
      intro s1 ez
      have hR2 := hR1.same s1
      -- self._rooms[number] = ..
      refine ⟨_, rfl, p, C, dx, _, _, rfl, s1 _ _ hp1, T.cl, T.nR, iflds_r _ _, _, rfl, o, _, _, i, rfl, rfl, hR2.top, ixN_of (by rw [List.length_map, hR2.len]; exact hi1), ?_⟩
      have zo : z ≠ o := (no_of hR1.top nz1)
      have zt : z ∉ ts1 := fun m => by
        obtain ⟨x, ex⟩ := hR1.lives m
        rw [nz1] at ex
        cases ex
      have k2 : Kp (fun b => b ≠ o) H H2 := k1.trans (.of s1)
      have nzH : H z = none := k1.none zo nz1
      have fin := hR2.put hi1 ez (.inr nzH) zt zo
      rw [← ee, List.map_set] at fin
      exact q _ _ fin (k2.mut fun z => z rfl)
end
end El
namespace El
open PySem PySem.Spec PyProof.Rows L2
section
variable {P : Program} {w : World} {K : PySem.W.Frag} {mg : Str → Option Value} {base : Heap}
abbrev s_Inn_come : Stmt := inClass (topS 12) 1
abbrev N_Inn_come : List Str := ["self", "age", "patience", "told", "mover", "number"]
abbrev P_Inn_come : List Str := ["self", "age", "patience"]
theorem sc_Inn_come : FnScope N_Inn_come P_Inn_come (defScope s_Inn_come) := ⟨rfl, rfl, rfl, by decide +kernel, rfl, by decide +kernel, by decide +kernel⟩
/-- all that is new or the Inn's own, but for the list told -/
abbrev Apart (B : Addr → Prop) (H : Hp) (q : Addr) (us : List Addr) : Addr → Prop := fun b => (B b ∨ H b = none) ∧ b ≠ q ∧ b ∉ us
def sp_Inn_come (C : Addr) : Sp := fun vs H Q _ => ∃ (B : Addr → Prop) (p d o : Addr) (ts : List Addr) (gs : List (Int × Int)) (x : Int × Int), vs = [.ref p, .int x.1, .int x.2] ∧ InnAt C H B p d o ts gs (settle gs) ∧ Fit (gs ++ [x]) ∧ gs.length ≤ 400 ∧
  ∀ H' q us ts', InnAt C H' (Apart B H q us) p d o ts' (gs ++ [x]) (settle (gs ++ [x])) → GsAt H' (fun b => H b = none) q us (comeT gs x) → Kp (fun b => ¬ B b) H H' → (∀ b, H' b = none → H b = none) → Q (.ref q) H'
theorem GsAt.offTs {H : Hp} {B : Addr → Prop} {a : Addr} {ts : List Addr} {gs : List (Int × Int)} (h : GsAt H B a ts gs) : a ∉ ts := fun m => by
  obtain ⟨i, e⟩ := List.mem_iff_getElem?.mp m
  have hl := at_lt e
  rw [h.len] at hl
  obtain ⟨g, eg⟩ := at_some hl
  have e1 := h.at' i a g e eg
  rw [h.top] at e1
  cases e1
/-- the loop of come -/
def CoW (C : Addr) (B : Addr → Prop) (H : Hp) (p d o q : Addr) (gs : List (Int × Int)) (x : Int × Int) (m : Nat) (σ : L2.St) (H2 : Hp) : Prop :=
  ∃ (T : List (Int × Int)) (us ts' : List Addr) (rs' : List (List Int)) (y4 : V) (y5 : Option V), σ = [some (.ref p), some (.int x.1), some (.int x.2), some (.ref q), some y4, y5] ∧ GsAt H2 (fun b => H b = none) q us T ∧ InnAt C H2 (Apart B H q us) p d o ts' (gs ++ [x]) rs' ∧ Kp (fun b => ¬ B b) H H2 ∧ (∀ b, H2 b = none → H b = none) ∧
    ((∃ (i : Nat) (x' : Int × Int), y4 = .int x'.1 ∧ m + i = (settle (gs ++ [x])).length ∧ Mid (gs ++ [x]) rs' i x' ∧ T.length = i ∧ comeT gs x = T ++ (comeF m (gs ++ [x]) rs' i x'.1).1) ∨ (y4 = .non ∧ m = 0 ∧ T = comeT gs x ∧ rs' = settle (gs ++ [x])))
theorem ok_Inn_come {C : Addr} (A : Ma K C "come" "Inn.come" P_Inn_come s_Inn_come) (B : Bi mg) (T : InnT K mg C) (D_check_newcomer : Df P w K mg base 1 "check_newcomer" P_check_newcomer s_check_newcomer sp_check_newcomer)
    (D_eldest_upset : Df P w K mg base 1 "eldest_upset" P_eldest_upset s_eldest_upset sp_eldest_upset) (M__enter : Mf P w K mg base 1 C "_enter" "Inn._enter" P_Inn__enter s_Inn__enter (sp_Inn__enter C)) : Mf P w K mg base 2 C "come" "Inn.come" P_Inn_come s_Inn_come (sp_Inn_come C) := by
  refine A.mf fun f fd F => F.ok sc_Inn_come (fun vs H Q E h => ?_) (fun cdv AA outer s H vs Q E hr h => ?_)
  · obtain ⟨_, _, _, _, _, _, _, rfl, _⟩ := h
    rfl
  · obtain ⟨BB, p, d, o, ts, gs, x, rfl, hI, hF, hl, q1⟩ := h
    have nd := sc_Inn_come.nd
    refine ⟨_, (pss_cons (ps_expr (pe_df D_check_newcomer (hr.mono (by decide)) (by rfl) (pa_cons (pe_fld (pv 0) rfl) (pa_cons (pv 1) (pa_cons (pv 2) pa_nil)))))
    (pss_cons (ps_dput (hu_of hr) (pe_fld (pv 0) rfl) (pv 1) (pv 2) rfl)
    (pss_cons (ps_set (i := 3) nd rfl (.inl rfl) (pe_lst pa_nil))
    (pss_cons (ps_set (i := 4) nd rfl (.inl rfl) (pv 1))
    (pss_cons (ps_while PassesOwn.never (pt_cmpR op_notN (pv 4) pe_non (nomark _)) (pss_cons (ps_set (i := 5) nd rfl (.inl rfl) (pe_callB call_len_seq (by rfl) B.len PySem.boot_len (pa_cons (pv 3) pa_nil))) (pss_cons (ps_expr (pe_mf M__enter T.cl (hr.mono (by decide)) (pv 0) (pa_cons (pv 4) (pa_cons (pv 5) pa_nil)))) (pss_cons (ps_expr (pe_bm PySem.F.plainAttrs_list PySem.F.slot_list_append PySem.F.type_list_append mt_append (pv 3) (pa_cons (pe_tup (pa_cons (pv 4) (pa_cons (pv 5) pa_nil))) pa_nil))) (pss_cons (ps_set (i := 4) nd rfl (.inl rfl) (pe_df D_eldest_upset (hr.mono (by decide)) (by rfl) (pa_cons (pe_fld (pv 0) rfl) (pa_cons (pe_ix ix_list (pe_fld (pv 0) rfl) (pv 5) (fun _ _ => rfl)) pa_nil)))) (pss_one (ps_if (pt_cmpR op_notN (pv 4) pe_non (nomark _)) (pss_one (ps_expr (pe_bm PySem.F.plainAttrs_list PySem.F.slot_list_remove PySem.F.type_list_remove mt_remove (pe_ix ix_list (pe_fld (pv 0) rfl) (pv 5) (fun _ _ => rfl)) (pa_cons (pv 4) pa_nil)))) pss_nil)))))))
    (pss_one (ps_ret (pv 3)))))))), ?_⟩
    obtain ⟨dx, hp⟩ := hI.ob
    have hx : x.1 ∉ gs.map (·.1) := by
      have := hF.nd
      rw [List.map_append, List.nodup_append] at this
      exact fun m => this.2.2 _ m x.1 (by simp) rfl
    have hx0 : 0 ≤ x.2 := hF.pos x (by simp)
    -- check_newcomer(self._patience_of, age, patience)
    refine ⟨_, rfl, p, C, dx, _, _, rfl, hp, T.cl, T.nP, iflds_p _ _, _, rfl, _, rfl, d, gs, x.1, x.2, rfl, hI.dc, hx, hx0, ?_⟩
    -- self._patience_of[age] = patience
    refine ⟨_, rfl, _, rfl, p, C, dx, _, _, rfl, hp, T.cl, T.nP, iflds_p _ _, _, rfl, d, _, rfl, DPut.k (k := Sum.inl x.1) hI.dc (ils (by rw [pks_len]; omega)), ?_⟩
    rw [putK_snoc hx]
    have nb : ∀ b, BB b → BB b ∨ H b = none := fun b z => .inl z
    have I1 : InnAt C (upd H d (.dK (pks (gs ++ [x])))) BB p d o ts (gs ++ [x]) (settle gs) := by
      refine ⟨⟨dx, by rw [upd_ne hI.pd]; exact hp⟩, upd_same, ?_, hI.bp, hI.bd⟩
      exact hI.rm.newTop (fun b u m e => by
        have : b ≠ d := by
          rcases m with rfl | m
          · exact hI.od
          · exact (hI.room m).2
        rw [upd_ne this]
        exact e) fun b m => by
          rcases m with rfl | m
          · exact hI.rm.bo
          · exact hI.rm.b b m
    have k1 : Kp (fun b => ¬ BB b) H (upd H d (.dK (pks (gs ++ [x])))) := Kp.mut Kp.refl fun z => z hI.bd
    have live1 : ∀ b, upd H d (.dK (pks (gs ++ [x]))) b = none → H b = none := fun b e => by
      by_cases z : b = d
      · rw [z, upd_same] at e
        cases e
      · rw [upd_ne z] at e
        exact e
    revert I1 k1 live1
    generalize upd H d (.dK (pks (gs ++ [x]))) = H1
    intro I1 k1 live1
    -- told = []
    refine ⟨Nat.zero_le _, fun q nq => ?_⟩
    have I2 : InnAt C (upd H1 q (.lst [])) (Apart BB H q []) p d o ts (gs ++ [x]) (settle gs) := (I1.reB (B' := Apart BB H q []) fun b z hb => ⟨.inl hb, (fun e => by
      obtain ⟨v, ev⟩ := z
      rw [e, nq] at ev
      cases ev), by simp⟩).same (same_new nq)
    have G2 : GsAt (upd H1 q (.lst [])) (fun b => H b = none) q [] [] := ⟨upd_same, live1 q nq, rfl, fun i t g e _ => by simp at e, fun t m => by simp at m⟩
    have k2 : Kp (fun b => ¬ BB b) H (upd H1 q (.lst [])) := k1.new nq
    have v2 : ∀ b, upd H1 q (.lst []) b = none → H b = none := fun b e => live1 b ((same_new nq).free e)
    revert I2 G2 k2 v2
    generalize upd H1 q (.lst []) = H2
    intro I2 G2 k2 v2
    -- mover = age
    refine ⟨_, rfl, ?_⟩
    dsimp only [gName]
    refine seq_to (fun σ H3 => ∃ us ts' y4 y5, σ = [some (.ref p), some (.int x.1), some (.int x.2), some (.ref q), y4, y5] ∧ GsAt H3 (fun b => H b = none) q us (comeT gs x) ∧ InnAt C H3 (Apart BB H q us) p d o ts' (gs ++ [x]) (settle (gs ++ [x])) ∧ Kp (fun b => ¬ BB b) H H3 ∧ (∀ b, H3 b = none → H b = none)) (fun X hX => ?_) (fun σ H3 hE => ?_)
    · refine while_to (CoW C BB H p d o q gs x) (fun σ H3 => ∃ us ts' y4 y5, σ = [some (.ref p), some (.int x.1), some (.int x.2), some (.ref q), y4, y5] ∧ GsAt H3 (fun b => H b = none) q us (comeT gs x) ∧ InnAt C H3 (Apart BB H q us) p d o ts' (gs ++ [x]) (settle (gs ++ [x])) ∧ Kp (fun b => ¬ BB b) H H3 ∧ (∀ b, H3 b = none → H b = none))
        ⟨(settle (gs ++ [x])).length, [], [], ts, settle gs, .int x.1, none, rfl, G2, I2, k2, v2, .inl ⟨0, x, rfl, rfl, Mid.start hF, rfl, rfl⟩⟩ hX (fun X hX m σ H3 hW => ?_)
      obtain ⟨TT, us, ts', rs', y4, y5, rfl, G3, I3, k3, v3, ⟨i, x', rfl, hmi, hM, hT, hco⟩ | ⟨rfl, rfl, rfl, rfl⟩⟩ := hW
      · refine ⟨_, rfl, rfl, _, rfl, ifYes (by show (!decide (V.int x'.1 = V.non)) = true; simp) ?_⟩
        refine ⟨fun σ' H' => ∃ m', m' < m ∧ CoW C BB H p d o q gs x m' σ' H', fun σ' H' h => h, ?_⟩
        obtain ⟨hi1, hi2, hl3, hm3, hx3⟩ := hM.first hF
        have lgs : (gs ++ [x]).length = gs.length + 1 := by
          rw [List.length_append]
          rfl
        -- number = len(told)
        refine ⟨.ref q, rfl, q, _, rfl, .inl G3.seq, ?_⟩
        rw [List.length_map, G3.len, hT]
        dsimp only [gName]
        -- self._enter(mover, number)
        obtain ⟨dx3, hp3⟩ := I3.ob
        refine ⟨_, rfl, p, dx3, _, rfl, hp3, iflds_no _ _ (by decide +kernel) (by decide +kernel), _, rfl, _, rfl, Apart BB H q us, p, d, o, ts', gs ++ [x], rs', x'.1, i, rfl, I3, hi2, by omega, fun r m => by have := hm3 r m; omega, fun H4 ts4 R4 k4 => ?_⟩
        have gone3 : ∀ b, H3 b = none → Apart BB H q us b := fun b e => by
          refine ⟨?_, fun z => ?_, fun z => ?_⟩
          · by_cases hb : BB b
            · exact .inl hb
            · exact .inr (k3.none hb e)
          · obtain ⟨v, ev⟩ := G3.there b (.inl z)
            rw [e] at ev
            cases ev
          · obtain ⟨v, ev⟩ := G3.there b (.inr z)
            rw [e] at ev
            cases ev
        have I4 : InnAt C H4 (Apart BB H q us) p d o ts4 (gs ++ [x]) (enterR rs' i x'.1) := ⟨⟨dx3, k4 _ _ I3.po hp3⟩, k4 _ _ I3.od.symm I3.dc, R4.weaken fun b z => z.elim id (gone3 b), I3.bp, I3.bd⟩
        have G4 : GsAt H4 (fun b => H b = none) q us TT := ((G3.reB (B' := fun b => H b = none ∧ b ≠ o) fun b m hb => ⟨hb, fun z => by
          rcases m with m | m
          · exact I3.rm.bo.2.1 (z.symm.trans m)
          · exact I3.rm.bo.2.2 (z ▸ m)⟩).keep (k4.weak fun b z => z.2)).weaken fun b z => z.1
        have k4' : Kp (fun b => ¬ BB b) H H4 := fun b u hb e => k4 b u (fun z => (z ▸ I3.rm.bo).1.elim (fun y => hb y) (fun y => by rw [y] at e; cases e)) (k3 b u hb e)
        obtain ⟨EE, eE, lE, inE, ndE, out⟩ := hM.step hF
        -- told.append((mover, number))
        refine ⟨.ref q, rfl, .inl ⟨rfl, _, G4.seq⟩, .int x'.1, rfl, .int i, rfl, (by show 2 ≤ sizeLine; decide), fun t nt => ?_⟩
        have G4t := G4.same (same_new (o := .tup [.int x'.1, .int i]) nt)
        have et : upd H4 t (.tup [.int x'.1, .int i]) t = some (.tup [.int ((x'.1, (i : Int)) : Int × Int).1, .int ((x'.1, (i : Int)) : Int × Int).2]) := upd_same
        have v4 : ∀ b, H4 b = none → H b = none := fun b e => v3 b (k4.none (fun z => by
          rw [z, R4.top] at e
          cases e) e)
        have htn : H t = none := v4 t nt
        refine ⟨q, _, _, rfl, rfl, G4t.top, ils (by rw [List.length_map, G4.len, hT]; omega), ?_⟩
        have G5 := G4t.push G4.offTs (g := (x'.1, (i : Int))) et htn
        have I5 : InnAt C (upd (upd H4 t (.tup [.int x'.1, .int i])) q (.lst (us.map V.ref ++ [.ref t]))) (Apart BB H q (us ++ [t])) p d o ts4 (gs ++ [x]) (enterR rs' i x'.1) :=
          ((I4.reB (B' := Apart BB H q (us ++ [t])) fun b z hb => ⟨hb.1, hb.2.1, fun m => (List.mem_append.mp m).elim hb.2.2 fun m => by
            obtain ⟨v, ev⟩ := z
            rw [List.mem_singleton.mp m, nt] at ev
            cases ev⟩).same (same_new nt)).keep (Kp.mut Kp.refl fun z => z.2.1 rfl)
        have k5 : Kp (fun b => ¬ BB b) H (upd (upd H4 t (.tup [.int x'.1, .int i])) q (.lst (us.map V.ref ++ [.ref t]))) := (k4'.new nt).mutF G4.ba
        have v5 : ∀ b, upd (upd H4 t (.tup [.int x'.1, .int i])) q (.lst (us.map V.ref ++ [.ref t])) b = none → H b = none := fun b e => by
          by_cases z : b = q
          · rw [z, upd_same] at e
            cases e
          · rw [upd_ne z] at e
            exact v4 b ((same_new nt).free e)
        revert G5 I5 k5 v5
        generalize upd (upd H4 t (.tup [.int x'.1, .int i])) q (.lst (us.map V.ref ++ [.ref t])) = H5
        intro G5 I5 k5 v5
        -- mover = eldest_upset(self._patience_of, self._rooms[number])
        obtain ⟨dx5, hp5⟩ := I5.ob
        obtain ⟨r5, er5, eh5⟩ := I5.rm.of eE
        have at5 : (ts4.map V.ref)[i]? = some (.ref r5) := by
          rw [List.getElem?_map, er5]
          rfl
        refine ⟨_, rfl, p, C, dx5, _, _, rfl, hp5, T.cl, T.nP, iflds_p _ _, _, rfl, p, C, dx5, _, _, rfl, hp5, T.cl, T.nR, iflds_r _ _, _, rfl, o, _, _, .ref r5, rfl, rfl, SqL.of I5.rm.top, atI_nat (j := i) at5, d, r5, EE, gs ++ [x], rfl, I5.dc, eh5, inE, hF.nd, by omega, fun H6 s6 => ?_⟩
        dsimp only [gName]
        have I6 := I5.same s6
        have G6 := G5.same s6
        have k6 := k5.trans (.of s6)
        have v6 : ∀ b, H6 b = none → H b = none := fun b e => v5 b (s6.free e)
        obtain ⟨m, rfl⟩ : ∃ m', m = m' + 1 := ⟨m - 1, by omega⟩
        rcases out with ⟨hu, hs⟩ | ⟨y, my, hu, hM'⟩
        · rw [hu]
          refine ⟨_, rfl, rfl, _, rfl, ifNo (by show (!decide (V.non = V.non)) = false; simp) ?_⟩
          rw [comeF_end eE hu] at hco
          exact ⟨0, by omega, TT ++ [(x'.1, (i : Int))], us ++ [t], ts4, _, .non, _, rfl, G6, I6, k6, v6, .inr ⟨rfl, rfl, hco.symm, hs⟩⟩
        · rw [hu]
          refine ⟨_, rfl, rfl, _, rfl, ifYes (by show (!decide (V.int y.1 = V.non)) = true; simp) ?_⟩
          rw [comeF_on eE hu] at hco
          obtain ⟨j, ej⟩ := List.mem_iff_getElem?.mp my
          refine ⟨_, rfl, p, C, dx5, _, _, rfl, s6 _ _ hp5, T.cl, T.nR, iflds_r _ _, _, rfl, o, _, _, .ref r5, rfl, rfl, SqL.of I6.rm.top, atI_nat (j := i) at5, .inl ⟨rfl, _, SqL.of (s6 _ _ eh5)⟩, .int y.1, rfl, r5, EE, y.1, j, rfl, rfl, s6 _ _ eh5, ej, fun l hl el => absurd (nd_ix ndE el ej) (by omega), ?_⟩
          rw [← erase_at ndE ej]
          have R7 := I6.rm.set er5 (EE.erase y.1)
          have br5 := I6.rm.b r5 (List.mem_of_getElem? er5)
          have no5 : r5 ≠ o := fun z => I6.rm.no (z ▸ List.mem_of_getElem? er5)
          have np5 := I6.room (List.mem_of_getElem? er5)
          have I7 : InnAt C (upd H6 r5 (.lst ((EE.erase y.1).map V.int))) (Apart BB H q (us ++ [t])) p d o ts4 (gs ++ [x]) ((enterR rs' i x'.1).set i (EE.erase y.1)) := I6.rooms (Kp.mut Kp.refl fun z => z.2 (List.mem_of_getElem? er5)) R7
          have G7 : GsAt (upd H6 r5 (.lst ((EE.erase y.1).map V.int))) (fun b => H b = none) q (us ++ [t]) (TT ++ [(x'.1, (i : Int))]) := ((G6.reB (B' := fun b => H b = none ∧ b ≠ r5) fun b m hb => ⟨hb, fun z => by
            rcases m with m | m
            · exact br5.2.1 (z.symm.trans m)
            · exact br5.2.2 (z ▸ m)⟩).keep (Kp.mut Kp.refl fun z => z.2 rfl)).weaken fun b z => z.1
          have k7 : Kp (fun b => ¬ BB b) H (upd H6 r5 (.lst ((EE.erase y.1).map V.int))) := by
            rcases br5.1 with z | z
            · exact k6.mut fun y => y z
            · exact k6.mutF z
          have v7 : ∀ b, upd H6 r5 (.lst ((EE.erase y.1).map V.int)) b = none → H b = none := fun b e => by
            by_cases z : b = r5
            · rw [z, upd_same] at e
              cases e
            · rw [upd_ne z] at e
              exact v6 b e
          refine ⟨m, by omega, TT ++ [(x'.1, (i : Int))], us ++ [t], ts4, _, .int y.1, _, rfl, G7, I7, k7, v7, .inl ⟨i + 1, y, rfl, by omega, hM', ?_, ?_⟩⟩
          · rw [List.length_append, hT]
            rfl
          · rw [hco, List.append_assoc]
            rfl
      · refine ⟨_, rfl, rfl, _, rfl, ifNo (by show (!decide (V.non = V.non)) = false; simp) ?_⟩
        exact hX _ _ ⟨us, ts', some .non, y5, rfl, G3, I3, k3, v3⟩
    · obtain ⟨us, ts', y4, y5, rfl, G3, I3, k3, v3⟩ := hE
      exact ⟨_, rfl, q1 _ _ _ _ I3 G3 k3 v3⟩
end
end El
namespace El
open PySem PySem.Spec PyProof.Rows L2
/-! ### the deck of draws -/
structure Deck (H : Hp) (t g : Addr) (n : Nat) : Prop where
  ne : t ≠ g
  ex : ∃ (gs : List Int) (c d : Int), H t = some (.lst [.ref g, .int c, .int d]) ∧ H g = some (.lst (gs.map V.int)) ∧ (∀ x ∈ gs, 0 ≤ x) ∧ gs.length ≤ 63 ∧ 0 ≤ c ∧ c < 2305843009213693951 ∧ 0 ≤ d ∧ d ≤ n
/-- what is no part of the deck -/
def Off (t g : Addr) (b : Addr) : Prop := b ≠ t ∧ b ≠ g
theorem Deck.same {H H' : Hp} {t g : Addr} {n : Nat} (h : Deck H t g n) (k : Same H H') : Deck H' t g n := by
  obtain ⟨gs, c, d, h1, h2, h3⟩ := h.ex
  exact ⟨h.ne, gs, c, d, k _ _ h1, k _ _ h2, h3⟩
theorem Deck.keep {H H' : Hp} {t g : Addr} {n : Nat} {B : Addr → Prop} (h : Deck H t g n) (k : Kp B H H') (bt : B t) (bg : B g) : Deck H' t g n := by
  obtain ⟨gs, c, d, h1, h2, h3⟩ := h.ex
  exact ⟨h.ne, gs, c, d, k _ _ bt h1, k _ _ bg h2, h3⟩
theorem Deck.more {H : Hp} {t g : Addr} {n m : Nat} (h : Deck H t g n) (k : n ≤ m) : Deck H t g m := by
  obtain ⟨gs, c, d, h1, h2, h3, h4, h5, h6, h7, h8⟩ := h.ex
  exact ⟨h.ne, gs, c, d, h1, h2, h3, h4, h5, h6, h7, by omega⟩
theorem Deck.off {H : Hp} {t g : Addr} {n : Nat} (h : Deck H t g n) {p : Addr} (e : H p = none) : Off t g p := by
  obtain ⟨gs, c, d, h1, h2, _⟩ := h.ex
  exact ⟨no_of h1 e, no_of h2 e⟩
theorem Deck.mut {H : Hp} {t g : Addr} {n : Nat} (h : Deck H t g n) {p : Addr} {o : HO} (k : Off t g p) : Deck (upd H p o) t g n := by
  obtain ⟨gs, c, d, h1, h2, h3⟩ := h.ex
  exact ⟨h.ne, gs, c, d, by rw [upd_ne k.1.symm]; exact h1, by rw [upd_ne k.2.symm]; exact h2, h3⟩
theorem Kp.off {H H' : Hp} {t g p : Addr} {o : HO} (e : Kp (Off t g) H H') (h : p = t ∨ p = g) : Kp (Off t g) H (upd H' p o) := e.mut fun z => by
  rcases h with rfl | rfl
  · exact z.1 rfl
  · exact z.2 rfl
end El
namespace El
open PySem PySem.Spec PyProof.Rows L2
section
variable {P : Program} {w : World} {K : PySem.W.Frag} {mg : Str → Option Value} {base : Heap}
abbrev s__law_deck : Stmt := topS 14
abbrev N__law_deck : List Str := ["script", "great", "fold", "cell"]
abbrev P__law_deck : List Str := ["script"]
theorem sc__law_deck : FnScope N__law_deck P__law_deck (defScope s__law_deck) := ⟨rfl, rfl, rfl, by decide +kernel, rfl, by decide +kernel, by decide +kernel⟩
def sp__law_deck (K : PySem.W.Frag) : Sp := fun vs H Q _ => ∃ (a : Addr) (ns : List Int), vs = [.ref a] ∧ SqL K H a (ns.map V.int) ∧ ns.length ≤ 63 ∧
  ∀ H' t g, Same H H' → H t = none → H g = none → Deck H' t g 0 → Q (.ref t) H'
theorem ok__law_deck (A : At K mg "_law_deck" P__law_deck s__law_deck) (B : Bi mg) : Df P w K mg base 1 "_law_deck" P__law_deck s__law_deck (sp__law_deck K) := by
  refine A.df fun f fd F => F.ok sc__law_deck (fun vs H Q E h => ?_) (fun cdv AA outer s H vs Q E hr h => ?_)
  · obtain ⟨a, _, rfl, _⟩ := h
    rfl
  · obtain ⟨a, ns, rfl, hS, hl, q⟩ := h
    have nd := sc__law_deck.nd
    refine ⟨_, (pss_cons (ps_set (i := 1) nd rfl (.inl rfl) (pe_lst pa_nil))
    (pss_cons (ps_set (i := 2) nd rfl (.inl rfl) pe_int)
    (pss_cons (ps_for PassesOwn.never rfl (pi_list (pv 0)) (pg_name (i := 3) nd rfl (.inl rfl)) (pss_cons (ps_set (i := 2) nd rfl (.inl rfl) (pe_op op_mod (pe_op op_add (pe_op op_mul (pv 2) pe_int) (pv 3)) pe_int)) (pss_one (ps_if (pt_cmpR op_ge (pe_callB call_abs (by rfl) B.abs (by decide +kernel) (pa_cons (pv 3) pa_nil)) (pe_op op_pow pe_int pe_int) (nomark _)) (pss_one (ps_expr (pe_bm PySem.F.plainAttrs_list PySem.F.slot_list_insert PySem.F.type_list_insert mt_insert (pv 1) (pa_cons pe_int (pa_cons (pe_op op_sub (pe_callB call_abs (by rfl) B.abs (by decide +kernel) (pa_cons (pv 3) pa_nil)) (pe_op op_pow pe_int pe_int)) pa_nil))))) pss_nil))))
    (pss_one (ps_ret (pe_lst (pa_cons (pv 1) (pa_cons (pv 2) (pa_cons pe_int pa_nil))))))))), ?_⟩
    refine ⟨Nat.zero_le _, fun g ng => ?_⟩
    refine ⟨.ref a, rfl, a, rfl, ⟨_, (same_new ng).seq hS⟩, ?_⟩
    refine for_it (walk_list (xs := ns.map V.int)) (fun i σ H2 => ∃ (c : Int) (gs : List Int) (y3 : Option V), σ = [some (.ref a), some (.ref g), some (.int c), y3] ∧ Same H H2 ∧ H2 g = some (.lst (gs.map V.int)) ∧ (∀ x ∈ gs, 0 ≤ x) ∧ gs.length ≤ i ∧ 0 ≤ c ∧ c < 2305843009213693951)
      ⟨11, [], none, rfl, same_new ng, upd_same, fun x h => absurd h (by simp), Nat.le_refl _, by decide, by decide⟩ (fun i σ H2 _ hW => ?_) (fun i x σ H2 H3 hi hW hY => ?_) (fun σ H2 hW => ?_)
    · obtain ⟨_, _, _, _, sm, _⟩ := hW
      exact sm.seq hS
    · obtain ⟨c, gs, y3, rfl, sm, eg, hp, hgl, c0, c1⟩ := hW
      obtain ⟨rfl, hx⟩ := hY
      obtain ⟨n, hx', rfl⟩ := ints_at hx
      have hil : i < 63 := by
        rw [List.length_map] at hi
        omega
      refine ⟨.int c, rfl, _, _, rfl, rfl, .inl ⟨by omega, by omega⟩, .int n, rfl, _, _, rfl, rfl, _, _, rfl, rfl, (by show (0 : Int) < 2305843009213693951; decide), ?_⟩
      have f0 : 0 ≤ (c * 1000003 + n) % 2305843009213693951 := Int.emod_nonneg _ (by decide)
      have f1 : (c * 1000003 + n) % 2305843009213693951 < 2305843009213693951 := Int.emod_lt_of_pos (c * 1000003 + n) (by decide)
      refine ⟨.int n, rfl, n, rfl, _, _, rfl, rfl, ⟨by decide, by decide, by decide⟩, _, _, rfl, rfl, _, rfl, ite2 (fun e => ?_) (fun e => ?_)⟩
      · have e := of_decide_eq_true e
        refine ⟨.ref g, rfl, .inl ⟨rfl, _, SqL.of eg⟩, .int n, rfl, n, rfl, _, _, rfl, rfl, ⟨by decide, by decide, by decide⟩, _, _, rfl, rfl, g, _, 0, _, rfl, rfl, eg, ils (by rw [List.length_map]; omega), by decide, by decide, ?_⟩
        refine ⟨_, ((if n < 0 then -n else n) - 10 ^ (18 : Int).toNat) :: gs, _, rfl, Same.mut sm ng, upd_same, fun x hx => ?_, by rw [List.length_cons]; omega, f0, f1⟩
        rcases List.mem_cons.mp hx with rfl | hx
        · have e' : (10 : Int) ^ (18 : Int).toNat ≤ (if n < 0 then -n else n) := e
          omega
        · exact hp x hx
      · exact ⟨_, gs, _, rfl, sm, eg, hp, Nat.le_succ_of_le hgl, f0, f1⟩
    · obtain ⟨c, gs, y3, rfl, sm, eg, hp, hgl, c0, c1⟩ := hW
      rw [List.length_map] at hgl
      refine ⟨.ref g, rfl, .int c, rfl, (by show 3 ≤ sizeLine; decide), fun t nt => ?_⟩
      have ntg : g ≠ t := ne_of_none eg nt
      exact q _ t g (sm.trans (same_new nt)) (sm.free nt) ng ⟨ntg.symm, gs, c, 0, upd_same, by rw [upd_ne ntg]; exact eg, hp, by omega, c0, c1, by decide, by decide⟩
end
end El
namespace El
open PySem PySem.Spec PyProof.Rows L2
section
variable {P : Program} {w : World} {K : PySem.W.Frag} {mg : Str → Option Value} {base : Heap}
abbrev s__law_take : Stmt := topS 15
abbrev N__law_take : List Str := ["deck", "many", "drawn", "turn", "mixed"]
abbrev P__law_take : List Str := ["deck", "many"]
theorem sc__law_take : FnScope N__law_take P__law_take (defScope s__law_take) := ⟨rfl, rfl, rfl, by decide +kernel, rfl, by decide +kernel, by decide +kernel⟩
def sp__law_take : Sp := fun vs H Q _ => ∃ (t g : Addr) (n : Nat) (m : Int), vs = [.ref t, .int m] ∧ Deck H t g n ∧ n ≤ 1000000000 ∧ 0 < m ∧ m < 2 ^ 200 ∧
  ∀ H' r, Kp (Off t g) H H' → Deck H' t g (n + 1) → 0 ≤ r → r < m → Q (.int r) H'
theorem ixN_last (n : Nat) : ixN (n + 1) (-1) = some n := by
  unfold ixN
  rw [if_neg (by decide), if_pos (by omega)]
  congr 1
  omega
theorem last_of (gs : List Int) : gs = [] ∨ ∃ r y, gs = r ++ [y] := by
  rcases List.eq_nil_or_concat gs with h | ⟨r, y, h⟩
  · exact .inl h
  · exact .inr ⟨r, y, by rw [h, List.concat_eq_append]⟩
theorem ok__law_take (A : At K mg "_law_take" P__law_take s__law_take) (B : Bi mg) : Df P w K mg base 1 "_law_take" P__law_take s__law_take sp__law_take := by
  refine A.df fun f fd F => F.ok sc__law_take (fun vs H Q E h => ?_) (fun cdv AA outer s H vs Q E hr h => ?_)
  · obtain ⟨_, _, _, _, rfl, _⟩ := h
    rfl
  · obtain ⟨t, g, n, m, rfl, hT, hn, m0, m1, q⟩ := h
    have nd := sc__law_take.nd
    refine ⟨_, (pss_cons (ps_while PassesOwn.never (PW.pt (pw_and (pt_cmpR (op_neD hr.units) (pe_ix ix_list (pv 0) pe_int (fun _ _ => rfl)) (pe_lst pa_nil) (nomark _)) (pw_and1 (pt_cmpR op_lt (pe_ix ix_list (pe_ix ix_list (pv 0) pe_int (fun _ _ => rfl)) (pe_un un_neg pe_int) (fun _ _ => rfl)) pe_int (nomark _))))) (pss_one (ps_expr (pe_bm0 PySem.F.plainAttrs_list PySem.F.slot_list_pop PySem.F.type_list_pop mt_pop (pe_ix ix_list (pv 0) pe_int (fun _ _ => rfl))))))
    (pss_cons (ps_if (pt_cmpR (op_neD hr.units) (pe_ix ix_list (pv 0) pe_int (fun _ _ => rfl)) (pe_lst pa_nil) (nomark _)) (pss_cons (ps_set (i := 2) nd rfl (.inl rfl) (pe_op op_mod (pe_ix ix_list (pe_ix ix_list (pv 0) pe_int (fun _ _ => rfl)) (pe_un un_neg pe_int) (fun _ _ => rfl)) (pv 1))) (pss_cons (ps_asg (pe_op op_fdivW (pe_ix ix_list (pe_ix ix_list (pv 0) pe_int (fun _ _ => rfl)) (pe_un un_neg pe_int) (fun _ _ => rfl)) (pv 1)) (pg_sub (pe_ix ix_list (pv 0) pe_int (fun _ _ => rfl)) (pe_un un_neg pe_int) set_list)) (pss_one (ps_ret (pv 2))))) pss_nil)
    (pss_cons (ps_asg (pe_op op_add (pe_ix ix_list (pv 0) pe_int (fun _ _ => rfl)) pe_int) (pg_sub (pv 0) pe_int set_list))
    (pss_cons (ps_set (i := 3) nd rfl (.inl rfl) (pe_ix ix_list (pv 0) pe_int (fun _ _ => rfl)))
    (pss_cons (ps_set (i := 4) nd rfl (.inl rfl) (pe_op op_add (pe_op op_mul (pe_op op_add (pe_ix ix_list (pv 0) pe_int (fun _ _ => rfl)) pe_int) (pe_op op_pow (pe_op op_add (pv 3) pe_int) pe_int)) (pe_op op_mul pe_int (pv 3))))
    (pss_one (ps_ret (pe_op op_mod (pe_op op_fdivW (pe_op op_mod (pe_op op_pow (pe_op op_mod (pv 4) pe_int) pe_int) pe_int) pe_int) (pv 1))))))))), ?_⟩
    have ne := hT.ne
    obtain ⟨gs0, c0, d0, i1, i2, i3, i4, i6, i7, i8, i9⟩ := hT.ex
    refine seq_to (fun σ H2 => σ = [some (.ref t), some (.int m), none, none, none] ∧ Kp (Off t g) H H2 ∧ Deck H2 t g n) (fun X hX => ?_) (fun σ H2 hE => ?_)
    · refine while_to (fun k σ H2 => σ = [some (.ref t), some (.int m), none, none, none] ∧ Kp (Off t g) H H2 ∧ ∃ (gs : List Int) (c d : Int), H2 t = some (.lst [.ref g, .int c, .int d]) ∧ H2 g = some (.lst (gs.map V.int)) ∧ (∀ x ∈ gs, 0 ≤ x) ∧ gs.length ≤ 63 ∧ 0 ≤ c ∧ c < 2305843009213693951 ∧ 0 ≤ d ∧ d ≤ n ∧ k = gs.length)
        (fun σ H2 => σ = [some (.ref t), some (.int m), none, none, none] ∧ Kp (Off t g) H H2 ∧ Deck H2 t g n) ⟨gs0.length, rfl, Kp.refl, gs0, c0, d0, i1, i2, i3, i4, i6, i7, i8, i9, rfl⟩ hX (fun X hX k σ H2 hW => ?_)
      obtain ⟨rfl, kp, gs, c, d, j1, j2, j3, j4, j6, j7, j8, j9, rfl⟩ := hW
      refine ⟨.ref t, rfl, t, _, 0, .ref g, rfl, rfl, SqL.of j1, atI_nat (j := 0) rfl, Nat.zero_le _, fun u nu => ?_⟩
      have s1 : Same H2 (upd H2 u (.lst [])) := same_new nu
      refine ⟨dInts gs, dInts [], Dp.ints (s1 _ _ j2), Dp.ints upd_same, (Oks.ints _).shaped, (Oks.ints _).shaped, _, rfl, ?_⟩
      rw [eqv_nil]
      rcases last_of gs with rfl | ⟨r, y, rfl⟩
      · exact iteF (iteF (hX _ _ ⟨rfl, kp.trans (.of s1), ne, [], c, d, s1 _ _ j1, s1 _ _ j2, j3, j4, j6, j7, j8, j9⟩))
      · have en : (r ++ [y]).isEmpty = false := by
          cases r <;> rfl
        rw [en]
        have j2' : (upd H2 u (.lst [])) g = some (.lst (r.map V.int ++ [.int y])) := by
          rw [s1 _ _ j2, List.map_append]
          rfl
        refine ifYes rfl ⟨.ref t, rfl, t, _, 0, .ref g, rfl, rfl, SqL.of (s1 _ _ j1), atI_nat (j := 0) rfl, _, rfl, g, _, -1, .int y, rfl, rfl, SqL.of j2', atI_last _ _, _, _, rfl, rfl, _, rfl, ?_⟩
        by_cases hy : y < 2
        · rw [decide_eq_true hy]
          refine ifYes rfl ⟨fun σ' H' => σ' = [some (.ref t), some (.int m), none, none, none] ∧ Kp (Off t g) H H' ∧ ∃ (gs : List Int) (c d : Int), H' t = some (.lst [.ref g, .int c, .int d]) ∧ H' g = some (.lst (gs.map V.int)) ∧ (∀ x ∈ gs, 0 ≤ x) ∧ gs.length ≤ 63 ∧ 0 ≤ c ∧ c < 2305843009213693951 ∧ 0 ≤ d ∧ d ≤ n ∧ r.length = gs.length, fun σ' H' h => ⟨r.length, by rw [List.length_append]; exact Nat.lt_succ_self _, h⟩, ?_⟩
          refine ⟨.ref t, rfl, t, _, 0, .ref g, rfl, rfl, SqL.of (s1 _ _ j1), atI_nat (j := 0) rfl, .inl ⟨rfl, _, SqL.of j2'⟩, g, _, .int y, rfl, rfl, j2', ?_, ?_⟩
          · rw [List.length_append, List.getElem?_append_right (by simp)]
            simp
          · rw [List.dropLast_concat]
            refine ⟨rfl, Kp.off (kp.trans (.of s1)) (.inr rfl), r, c, d, by rw [upd_ne ne]; exact s1 _ _ j1, upd_same, fun x m => j3 x (by simp [m]), ?_, j6, j7, j8, j9, rfl⟩
            rw [List.length_append] at j4
            exact Nat.le_of_succ_le j4
        · rw [decide_eq_false hy]
          exact ifNo rfl (hX _ _ ⟨rfl, kp.trans (.of s1), ne, r ++ [y], c, d, s1 _ _ j1, s1 _ _ j2, j3, j4, j6, j7, j8, j9⟩)
    · obtain ⟨rfl, kp, hT2⟩ := hE
      obtain ⟨gs, c, d, j1, j2, j3, j4, j6, j7, j8, j9⟩ := hT2.ex
      have g1 : ∀ y : Int, CDivW y m := fun y => ⟨m0, Nat.lt_trans (log_lt m0 m1) (by decide)⟩
      refine ⟨.ref t, rfl, t, _, 0, .ref g, rfl, rfl, SqL.of j1, atI_nat (j := 0) rfl, Nat.zero_le _, fun u nu => ?_⟩
      have s1 : Same H2 (upd H2 u (.lst [])) := same_new nu
      refine ⟨dInts gs, dInts [], Dp.ints (s1 _ _ j2), Dp.ints upd_same, (Oks.ints _).shaped, (Oks.ints _).shaped, _, rfl, ?_⟩
      rw [eqv_nil]
      have kp1 := kp.trans (Kp.of (B := Off t g) s1)
      have e1 := s1 _ _ j1
      have e2 := s1 _ _ j2
      revert kp1 e1 e2
      generalize upd H2 u (.lst []) = H3
      intro kp1 e1 e2
      rcases last_of gs with rfl | ⟨r, y, rfl⟩
      · refine iteF ?_
        -- deck[2] = deck[2] + 1
        refine ⟨.ref t, rfl, t, _, 2, .int d, rfl, rfl, SqL.of e1, atI_nat (j := 2) rfl, _, _, rfl, rfl, ?_⟩
        refine ⟨.ref t, rfl, t, _, 2, 2, rfl, rfl, e1, rfl, ?_⟩
        have e4 : upd H3 t (.lst ([V.ref g, .int c, .int d].set 2 (.int (d + 1)))) t = some (.lst [.ref g, .int c, .int (d + 1)]) := by rw [upd_same]; rfl
        have hT3 : Deck (upd H3 t (.lst ([V.ref g, .int c, .int d].set 2 (.int (d + 1))))) t g (n + 1) := ⟨ne, [], c, d + 1, e4, by rw [upd_ne ne.symm]; exact e2, j3, j4, j6, j7, by omega, by omega⟩
        have k3 : Kp (Off t g) H (upd H3 t (.lst ([V.ref g, .int c, .int d].set 2 (.int (d + 1))))) := Kp.off kp1 (.inl rfl)
        revert e4 hT3 k3
        generalize upd H3 t (.lst ([V.ref g, .int c, .int d].set 2 (.int (d + 1)))) = H4
        intro e4 hT3 k3
        refine ⟨.ref t, rfl, t, _, 2, .int (d + 1), rfl, rfl, SqL.of e4, atI_nat (j := 2) rfl, ?_⟩
        refine ⟨.ref t, rfl, t, _, 1, .int c, rfl, rfl, SqL.of e4, atI_nat (j := 1) rfl, _, _, rfl, rfl, _, rfl, _, _, rfl, rfl, _, _, rfl, rfl, ⟨by decide, by decide, ?_⟩, _, _, rfl, rfl, .inl ⟨by omega, by omega⟩, _, rfl, _, _, rfl, rfl, .inl ⟨by decide, by decide⟩, _, _, rfl, rfl, ?_⟩
        · show (d + 1 + 5).natAbs < 2 ^ 64
          omega
        · refine ⟨_, rfl, _, _, rfl, rfl, (by show (0 : Int) < 2305843009213693951; decide), _, _, rfl, rfl, ⟨by decide, by decide, ?_⟩, _, _, rfl, rfl, (by show (0 : Int) < 1000000007; decide), _, _, rfl, rfl, ⟨by decide, by decide⟩, .int m, rfl, _, _, rfl, rfl, m0, ?_⟩
          · have f0 := Int.emod_nonneg ((c + 40503) * (d + 1 + 5) ^ (3 : Int).toNat + 69621 * (d + 1)) (show (2305843009213693951 : Int) ≠ 0 by decide)
            have f1 := Int.emod_lt_of_pos ((c + 40503) * (d + 1 + 5) ^ (3 : Int).toNat + 69621 * (d + 1)) (show (0 : Int) < 2305843009213693951 by decide)
            show (((c + 40503) * (d + 1 + 5) ^ (3 : Int).toNat + 69621 * (d + 1)) % 2305843009213693951).natAbs < 2 ^ 64
            omega
          · exact q _ _ k3 hT3 (Int.emod_nonneg _ (by omega)) (Int.emod_lt_of_pos _ m0)
      · have en : (r ++ [y]).isEmpty = false := by
          cases r <;> rfl
        rw [en]
        rw [List.map_append] at e2
        refine ifYes rfl ?_
        refine ⟨.ref t, rfl, t, _, 0, .ref g, rfl, rfl, SqL.of e1, atI_nat (j := 0) rfl, _, rfl, g, _, -1, .int y, rfl, rfl, SqL.of e2, atI_last _ _, .int m, rfl, _, _, rfl, rfl, m0, ?_⟩
        refine ⟨.ref t, rfl, t, _, 0, .ref g, rfl, rfl, SqL.of e1, atI_nat (j := 0) rfl, _, rfl, g, _, -1, .int y, rfl, rfl, SqL.of e2, atI_last _ _, .int m, rfl, _, _, rfl, rfl, g1 _, ?_⟩
        refine ⟨.ref t, rfl, t, _, 0, .ref g, rfl, rfl, SqL.of e1, atI_nat (j := 0) rfl, _, rfl, g, _, -1, r.length, rfl, rfl, e2, ?_, ?_⟩
        · rw [List.length_append, List.length_map]
          exact ixN_last _
        · have es : (r.map V.int ++ [y].map V.int).set r.length (V.int (y / m)) = (r ++ [y / m]).map V.int := by
            rw [List.set_append_right _ _ (by rw [List.length_map]; exact Nat.le_refl _), List.length_map, Nat.sub_self, List.map_append]
            rfl
          rw [es]
          refine ⟨_, rfl, q _ _ (Kp.off kp1 (.inr rfl)) ⟨ne, r ++ [y / m], c, d, by rw [upd_ne ne]; exact e1, upd_same, fun x mx => ?_, ?_, j6, j7, j8, by omega⟩ (Int.emod_nonneg _ (by omega)) (Int.emod_lt_of_pos _ m0)⟩
          · rcases List.mem_append.mp mx with mx | mx
            · exact j3 x (List.mem_append_left _ mx)
            · rw [List.mem_singleton.mp mx]
              exact Int.ediv_nonneg (j3 y (by simp)) (by omega)
          · rw [List.length_append] at j4 ⊢
            exact j4
end
end El
namespace El
open PySem PySem.Spec PyProof.Rows L2
section
variable {P : Program} {w : World} {K : PySem.W.Frag} {mg : Str → Option Value} {base : Heap}
abbrev s__law_old : Stmt := topS 16
abbrev N__law_old : List Str := ["deck", "many", "kind", "left", "spot", "turn"]
abbrev P__law_old : List Str := ["deck", "many"]
theorem sc__law_old : FnScope N__law_old P__law_old (defScope s__law_old) := ⟨rfl, rfl, rfl, by decide +kernel, rfl, by decide +kernel, by decide +kernel⟩
def sp__law_old : Sp := fun vs H Q _ => ∃ (t g : Addr) (n many : Nat), vs = [.ref t, .int (many : Int)] ∧ Deck H t g n ∧ many ≤ 60 ∧ n ≤ 900000000 ∧
  ∀ (H' : Hp) (o : Addr) (ns : List Int), Kp (Off t g) H H' → Deck H' t g (n + 100) → H o = none → H' o = some (.lst (ns.map V.int)) → ns.Nodup → ns.length = many → (∀ z ∈ ns, z.natAbs < 500000000000000000000000000000) → Q (.ref o) H'
/-- the age at a spot -/
def spotAt (kd m k : Int) : Int := if kd = 0 then k else if kd = 1 then k - m / 2 else if kd = 2 then 3 * k - 50 else (k - m / 2) * 10 ^ Int.toNat 28
theorem spotAt_inj {kd m i j : Int} (h : spotAt kd m i = spotAt kd m j) : i = j := by
  have e : (10 : Int) ^ Int.toNat 28 = 10000000000000000000000000000 := by decide
  unfold spotAt at h
  rw [e] at h
  split at h
  · exact h
  · split at h
    · omega
    · split at h
      · omega
      · omega
theorem spots_nodup (kd m : Int) (n : Nat) : ((List.range n).map fun k : Nat => spotAt kd m k).Nodup := by
  rw [List.Nodup, List.pairwise_map]
  refine List.nodup_range.imp fun h z => h ?_
  exact Int.ofNat.inj (spotAt_inj z)
theorem spots_low {kd m : Int} (h0 : 0 ≤ m) (h : m ≤ 60) : ∀ k : Nat, (k : Int) < m → (spotAt kd m k).natAbs < 500000000000000000000000000000 := fun k hk => by
  have e : (10 : Int) ^ Int.toNat 28 = 10000000000000000000000000000 := by decide
  unfold spotAt
  rw [e]
  split
  · omega
  · split
    · omega
    · split
      · omega
      · omega
theorem ok__law_old (A : At K mg "_law_old" P__law_old s__law_old) (B : Bi mg) (D__law_take : Df P w K mg base 1 "_law_take" P__law_take s__law_take sp__law_take) : Df P w K mg base 2 "_law_old" P__law_old s__law_old sp__law_old := by
  refine A.df fun f fd F => F.ok sc__law_old (fun vs H Q E h => ?_) (fun cdv AA outer s H vs Q E hr h => ?_)
  · obtain ⟨_, _, _, _, rfl, _⟩ := h
    rfl
  · obtain ⟨t, g, n, many, rfl, hT, hm, hn, q⟩ := h
    have nd := sc__law_old.nd
    refine ⟨_, (pss_cons (ps_set (i := 2) nd rfl (.inr rfl) (pe_df D__law_take (hr.mono (by decide)) (by rfl) (pa_cons (pv 0) (pa_cons pe_int pa_nil))))
    (pss_cons (ps_set (i := 3) nd rfl (.inr rfl) (pe_lc (own := [("spot", 4)]) (tt := tYes) rfl nd (pi_range1 (by rfl) B.range (pa_cons (pv 1) pa_nil)) (blkOk_by (N := N__law_old) (sc := defScope s__law_old) (by decide +kernel)) (fun _ _ _ _ _ => (pg_name (i := 4) nd rfl (.inl rfl))) (fun _ _ _ _ _ => pts_nil) (fun _ _ _ _ _ => (pe_ix (ixlK K) (pe_lst (pa_cons (pv 4) (pa_cons (pe_op op_sub (pv 4) (pe_op op_fdivW (pv 1) pe_int)) (pa_cons (pe_op op_sub (pe_op op_mul pe_int (pv 4)) pe_int) (pa_cons (pe_op op_mul (pe_op op_sub (pv 4) (pe_op op_fdivW (pv 1) pe_int)) (pe_op op_pow pe_int pe_int)) pa_nil))))) (pv 2) (fun _ _ => rfl)))))
    (pss_one (ps_ret (pe_lc (own := [("turn", 5)]) (tt := tYes) rfl nd (pi_range1 (by rfl) B.range (pa_cons (pv 1) pa_nil)) (blkOk_by (N := N__law_old) (sc := defScope s__law_old) (by decide +kernel)) (fun _ _ _ _ _ => (pg_name (i := 5) nd rfl (.inl rfl))) (fun _ _ _ _ _ => pts_nil) (fun _ _ _ _ _ => (bmK K PySem.F.plainAttrs_list PySem.F.slot_list_pop PySem.F.type_list_pop mt_popAt (pv 3) (pa_cons (pe_df D__law_take (hr.mono (by decide)) (by rfl) (pa_cons (pv 0) (pa_cons (pe_callB (lenK K) (by rfl) B.len PySem.boot_len (pa_cons (pv 3) pa_nil)) pa_nil))) pa_nil)))))))), ?_⟩
    refine ⟨.ref t, rfl, t, g, n, 4, rfl, hT, by omega, by decide, by decide, fun H1 kd k1 T1 a1 b1 => ?_⟩
    refine ⟨_, rfl, _, rfl, by omega, by omega, fun l nl => ?_⟩
    have sl : Same H1 (upd H1 l (.lst [])) := same_new nl
    refine lc_it (walk_range (n := many)) (fun i H2 => Same H1 H2 ∧ H2 l = some (.lst (((List.range i).map fun k : Nat => spotAt kd many k).map V.int)))
      ⟨sl, upd_same⟩ (fun _ _ _ _ => trivial) (fun i x H2 H3 hi hW hY => ?_) (fun H2 hW => ?_)
    · obtain ⟨sm, e1⟩ := hW
      obtain ⟨rfl, rfl⟩ := hY
      have fin : ∀ {H5 : Hp}, Same H3 H5 → Same H1 (upd H5 l (.lst (((List.range i).map fun k : Nat => spotAt kd many k).map V.int ++ [.int (spotAt kd many i)]))) ∧ upd H5 l (.lst (((List.range i).map fun k : Nat => spotAt kd many k).map V.int ++ [.int (spotAt kd many i)])) l = some (.lst (((List.range (i + 1)).map fun k : Nat => spotAt kd many k).map V.int)) := fun s5 => by
        refine ⟨Same.mut (sm.trans s5) nl, ?_⟩
        rw [upd_same, List.range_succ, List.map_append, List.map_append]
        rfl
      refine ⟨rfl, _, rfl, _, rfl, _, rfl, _, _, rfl, rfl, ⟨by decide, by decide⟩, _, _, rfl, rfl, _, rfl, _, _, rfl, rfl, .inl ⟨by decide, by decide⟩, _, _, rfl, rfl, _, rfl, _, rfl, _, _, rfl, rfl, ⟨by decide, by decide⟩, _, _, rfl, rfl, _, _, rfl, rfl, ⟨by decide, by decide, by decide⟩, _, _, rfl, rfl, .inl ⟨?_, ?_⟩, (by show 4 ≤ sizeLine; decide), fun u nu => ?_⟩
      · omega
      · omega
      · refine ⟨_, rfl, u, _, kd, .int (spotAt kd many i), rfl, rfl, SqL.of upd_same, ?_, _, (same_new nu) _ _ e1, ils (by rw [List.length_map, List.length_map, List.length_range]; omega), fin (same_new nu)⟩
        have : kd = 0 ∨ kd = 1 ∨ kd = 2 ∨ kd = 3 := by omega
        show atI [V.int (0 + (i : Int)), .int (0 + (i : Int) - (many : Int) / 2), .int (3 * (0 + (i : Int)) - 50), .int ((0 + (i : Int) - (many : Int) / 2) * 10 ^ Int.toNat 28)] kd = _
        rw [Int.zero_add]
        rcases this with rfl | rfl | rfl | rfl <;> rfl
    · obtain ⟨sm, e1⟩ := hW
      have spn := spots_nodup kd many many
      have spl : ((List.range many).map fun k : Nat => spotAt kd many k).length = many := by rw [List.length_map, List.length_range]
      have spb : ∀ z ∈ (List.range many).map fun k : Nat => spotAt kd many k, z.natAbs < 500000000000000000000000000000 := fun z m => by
        obtain ⟨k, hk, rfl⟩ := List.mem_map.mp m
        exact spots_low (by omega) (by omega) k (by have := List.mem_range.mp hk; omega)
      revert e1 spn spl spb
      generalize ((List.range many).map fun k : Nat => spotAt kd many k) = L
      intro e1 spn spl spb
      have k2 : Kp (Off t g) H H2 := k1.trans (.of sm)
      have T2 := T1.same sm
      have nl0 : H l = none := k1.none (T1.off nl) nl
      refine ⟨_, rfl, _, rfl, by omega, by omega, fun D nD => ?_⟩
      have nDl : l ≠ D := ne_of_none e1 nD
      have oD : Off t g D := T2.off nD
      have ol : Off t g l := T1.off nl
      have nD0 : H D = none := k2.none oD nD
      refine lc_it (walk_range (n := many)) (fun i H3 => ∃ ls acc : List Int, Kp (Off t g) H H3 ∧ H3 l = some (.lst (ls.map V.int)) ∧ H3 D = some (.lst (acc.map V.int)) ∧ (acc ++ ls).Perm L ∧ ls.length + i = many ∧ acc.length = i ∧ Deck H3 t g (n + 1 + i))
        ⟨L, [], k2.new nD, by rw [upd_ne nDl]; exact e1, upd_same, by simp, spl, rfl, T2.same (same_new nD)⟩ (fun _ _ _ _ => trivial) (fun i x H3 H4 hi hW hY => ?_) (fun H3 hW => ?_)
      · obtain ⟨ls, acc, kp, e1, e2, pm, hlen, ha, hT2⟩ := hW
        obtain ⟨rfl, rfl⟩ := hY
        refine ⟨rfl, .ref l, rfl, .inl ⟨rfl, _, SqL.of e1⟩, .ref t, rfl, .ref l, rfl, l, _, rfl, .inl (SqL.of e1), t, g, n + 1 + i, _, rfl, hT2, by omega, ?_, ?_, fun H5 r k4 T4 r0 r1 => ?_⟩
        · rw [List.length_map]
          omega
        · rw [List.length_map]
          exact Int.lt_of_lt_of_le (show (ls.length : Int) < 1001 by omega) (by decide)
        · rw [List.length_map] at r1
          obtain ⟨k, rfl⟩ : ∃ k : Nat, r = k := ⟨r.toNat, by omega⟩
          have hk : k < ls.length := by omega
          obtain ⟨y, ey⟩ := at_some hk
          have e1' := k4 _ _ ol e1
          have e2' := k4 _ _ oD e2
          refine ⟨l, _, _, k, .int y, rfl, rfl, e1', ?_, ?_, seq_ix (by rw [List.length_map]; exact hk), ?_, _, by rw [upd_ne nDl.symm]; exact e2', ils (by rw [List.length_map]; omega), ls.eraseIdx k, acc ++ [y], ?_, ?_, ?_, ?_, ?_, ?_, ?_⟩
          · omega
          · omega
          · rw [List.getElem?_map, ey]
            rfl
          · exact (Kp.mutF (Kp.mutF (kp.trans k4) nl0) nD0)
          · rw [upd_ne nDl, upd_same, map_erase0']
          · rw [upd_same, List.map_append]
            rfl
          · refine List.Perm.trans ?_ pm
            rw [List.append_assoc]
            exact List.Perm.append_left _ (erase_perm ey)
          · rw [List.length_eraseIdx_of_lt hk]
            omega
          · rw [List.length_append, ha]
            rfl
          · exact (T4.mut ol).mut oD
      · obtain ⟨ls, acc, kp, e1, e2, pm, hlen, ha, hT2⟩ := hW
        have : ls = [] := List.eq_nil_of_length_eq_zero (by omega)
        subst this
        rw [List.append_nil] at pm
        exact q H3 D acc kp (hT2.more (by omega)) nD0 e2 (pm.nodup_iff.mpr spn) (by rw [pm.length_eq, spl]) fun z m => spb z (pm.mem_iff.mp m)
end
end El
namespace El
open PySem PySem.Spec PyProof.Rows L2
section
variable {P : Program} {w : World} {K : PySem.W.Frag} {mg : Str → Option Value} {base : Heap}
abbrev s__law_folk : Stmt := topS 17
abbrev N__law_folk : List Str := ["deck", "most", "many", "kind", "ages", "found", "old", "elders", "some", "one"]
abbrev P__law_folk : List Str := ["deck", "most"]
theorem sc__law_folk : FnScope N__law_folk P__law_folk (defScope s__law_folk) := ⟨rfl, rfl, rfl, by decide +kernel, rfl, by decide +kernel, by decide +kernel⟩
def sp__law_folk : Sp := fun vs H Q _ => ∃ (t g : Addr) (n most : Nat), vs = [.ref t, .int (most : Int)] ∧ Deck H t g n ∧ most ≤ 59 ∧ n ≤ 800000000 ∧
  ∀ (H' : Hp) (o : Addr) (ts : List Addr) (gs : List (Int × Int)), Kp (Off t g) H H' → Deck H' t g (n + 600) → GsAt H' (fun b => H b = none) o ts gs → Fit gs → gs.length ≤ most → (∀ z ∈ gs, z.1.natAbs < 500000000000000000000000000000 ∧ z.2 < 2000000000000000000000000000000) → Q (.ref o) H'
theorem GsAt.newTop' {H H' : Hp} {B : Addr → Prop} {a p : Addr} {ts : List Addr} {gs : List (Int × Int)} (h : GsAt H B a ts gs) (off : ∀ b, (b = a ∨ b ∈ ts) → b ≠ p) (k : Kp (fun b => b ≠ p) H H') : GsAt H' B a ts gs :=
  ((h.reB (B' := fun b => B b ∧ b ≠ p) fun b m hb => ⟨hb, off b m⟩).keep (k.weak fun b z => z.2)).weaken fun b z => z.1
theorem ok__law_folk (A : At K mg "_law_folk" P__law_folk s__law_folk) (B : Bi mg) (D__law_take : Df P w K mg base 1 "_law_take" P__law_take s__law_take sp__law_take) (D__law_old : Df P w K mg base 2 "_law_old" P__law_old s__law_old sp__law_old) : Df P w K mg base 3 "_law_folk" P__law_folk s__law_folk sp__law_folk := by
  refine A.df fun f fd F => F.ok sc__law_folk (fun vs H Q E h => ?_) (fun cdv AA outer s H vs Q E hr h => ?_)
  · obtain ⟨_, _, _, _, rfl, _⟩ := h
    rfl
  · obtain ⟨t, g, n, most, rfl, hT, hm, hn, q⟩ := h
    have nd := sc__law_folk.nd
    refine ⟨_, (pss_cons (ps_par (i := 2) (j := 3) (by rfl) nd rfl rfl (by decide) rfl rfl (pa_cons (pe_df D__law_take (hr.mono (by decide)) (by rfl) (pa_cons (pv 0) (pa_cons (pe_op op_add (pv 1) pe_int) pa_nil))) (pa_cons (pe_df D__law_take (hr.mono (by decide)) (by rfl) (pa_cons (pv 0) (pa_cons pe_int pa_nil))) pa_nil)) (by rfl))
    (pss_cons (ps_set (i := 4) nd rfl (.inl rfl) (pe_df D__law_old (hr.mono (by decide)) (by rfl) (pa_cons (pv 0) (pa_cons (pv 2) pa_nil))))
    (pss_cons (ps_set (i := 5) nd rfl (.inl rfl) (pe_lst pa_nil))
    (pss_cons (ps_for PassesOwn.never rfl (pi_list (pv 4)) (pg_name (i := 6) nd rfl (.inr rfl)) (pss_cons (ps_set (i := 7) nd rfl (.inl rfl) (pe_callB call_len_seq (by rfl) B.len PySem.boot_len (pa_cons (pe_lc (own := [("one", 9)]) rfl nd (pi_list (pv 4)) (blkOk_by (N := N__law_folk) (sc := defScope s__law_folk) (by decide +kernel)) (fun _ _ _ _ _ => (pg_name (i := 9) nd rfl (.inl rfl))) (fun _ _ _ _ _ => (pts_one (pt_cmpR op_gt (pv 9) (pv 6) (nomark _)))) (fun _ _ _ _ _ => (pv 9))) pa_nil))) (pss_cons (ps_set (i := 8) nd rfl (.inl rfl) (pe_lst (pa_cons pe_int (pa_cons (pe_df D__law_take (hr.mono (by decide)) (by rfl) (pa_cons (pv 0) (pa_cons pe_int pa_nil))) (pa_cons (pe_df D__law_take (hr.mono (by decide)) (by rfl) (pa_cons (pv 0) (pa_cons (pe_op op_add (pv 2) pe_int) pa_nil))) (pa_cons (pe_op op_sub (pe_op op_sub (pe_op op_pow pe_int pe_int) pe_int) (pe_df D__law_take (hr.mono (by decide)) (by rfl) (pa_cons (pv 0) (pa_cons pe_int pa_nil)))) (pa_cons (pe_op op_fdivW (pv 7) pe_int) pa_nil))))))) (pss_cons (ps_expr (pe_bm PySem.F.plainAttrs_list PySem.F.slot_list_append PySem.F.type_list_append mt_append (pv 8) (pa_cons (pe_callB (call_max2 rfl) (by rfl) B.max (by decide +kernel) (pa_cons pe_int (pa_cons (pe_op op_sub pe_int (pe_op op_fdivW (pv 7) pe_int)) pa_nil))) pa_nil))) (pss_one (ps_expr (pe_bm PySem.F.plainAttrs_list PySem.F.slot_list_append PySem.F.type_list_append mt_append (pv 5) (pa_cons (pe_tup (pa_cons (pv 6) (pa_cons (pe_ix ix_list (pv 8) (pe_ix ix_list (pe_lst (pa_cons (pv 3) (pa_cons (pe_df D__law_take (hr.mono (by decide)) (by rfl) (pa_cons (pv 0) (pa_cons pe_int pa_nil))) pa_nil))) (pe_callTy call_int1 (by rfl) B.int_ (by decide +kernel) (pa_cons (pe_cmpR op_eq (pe_df D__law_take (hr.mono (by decide)) (by rfl) (pa_cons (pv 0) (pa_cons pe_int pa_nil))) pe_int (nomark _)) pa_nil)) (fun _ _ => rfl)) (fun _ _ => rfl)) pa_nil))) pa_nil))))))))
    (pss_one (ps_ret (pv 5))))))), ?_⟩
    refine ⟨.ref t, rfl, _, rfl, _, _, rfl, rfl, t, g, n, _, rfl, hT, by omega, by omega, ?_, fun H1 r1 k1 T1 a1 b1 => ?_⟩
    · exact Int.lt_of_le_of_lt (show (most : Int) + 1 ≤ 60 by omega) (by decide)
    obtain ⟨many, rfl⟩ : ∃ k : Nat, r1 = k := ⟨r1.toNat, by omega⟩
    have hmany : many ≤ most := by omega
    refine ⟨.ref t, rfl, t, g, n + 1, 6, rfl, T1, by omega, by decide, by decide, fun H2 kd k2 T2 a2 b2 => ?_⟩
    refine ⟨_, _, rfl, ?_⟩
    -- ages
    refine ⟨.ref t, rfl, _, rfl, t, g, n + 2, many, rfl, T2, by omega, by omega, fun H3 o ns k3 T3 no e3 hnd hl hlow => ?_⟩
    have oo : Off t g o := T2.off no
    have kB : Kp (Off t g) H H3 := (k1.trans k2).trans k3
    -- found = []
    refine ⟨Nat.zero_le _, fun D nD => ?_⟩
    have oD : Off t g D := T3.off nD
    have hDo : o ≠ D := ne_of_none e3 nD
    have nD0 : H D = none := kB.none oD nD
    have offD : ∀ z, H z = none → Off t g z := fun z hz => hT.off hz
    have oN : H o = none := (k1.trans k2).none oo no
    refine ⟨.ref o, rfl, o, rfl, ⟨_, SqL.of (by rw [upd_ne hDo]; exact e3)⟩, ?_⟩
    refine for_it (walk_list (xs := ns.map V.int)) (fun i σ H4 => ∃ y6 y7 y8 ts gs, σ = [some (.ref t), some (.int most), some (.int many), some (.int kd), some (.ref o), some (.ref D), y6, y7, y8, none] ∧ Kp (Off t g) H H4 ∧ H4 o = some (.lst (ns.map V.int)) ∧ GsAt H4 (fun b => H b = none) D ts gs ∧ gs.map (·.1) = ns.take i ∧ (∀ g ∈ gs, 0 ≤ g.2 ∧ g.2 < 2000000000000000000000000000000) ∧ Deck H4 t g (n + 102 + 6 * i) ∧ o ∉ ts)
      ⟨none, none, none, [], [], rfl, kB.new nD, by rw [upd_ne hDo]; exact e3, ⟨upd_same, nD0, rfl, fun i t g e _ => by simp at e, fun t m => by simp at m⟩, rfl, fun g m => by simp at m, T3.mut oD, by simp⟩ (fun i σ H4 _ hW => ?_) (fun i x σ H4 H5 hi hW hY => ?_) (fun σ H4 hW => ?_)
    · obtain ⟨_, _, _, _, _, _, _, e4, _⟩ := hW
      exact SqL.of e4
    · obtain ⟨y6, y7, y8, ts, gs, rfl, kp, e4, hG, hgs, hpos, T4, hot⟩ := hW
      obtain ⟨rfl, hx⟩ := hY
      obtain ⟨a, ea, rfl⟩ := ints_at hx
      have hi' : i < ns.length := at_lt ea
      have hgl : gs.length = i := by
        have := congrArg List.length hgs
        rw [List.length_map, List.length_take] at this
        omega
      -- elders
      refine ⟨.ref o, rfl, o, rfl, ⟨_, SqL.of e4⟩, fun D1 nD1 => ?_⟩
      refine lc_sel (fun b => decide (a < b)) e4 nD1 (by omega) (fun z H' Q h => ⟨.int z, rfl, .int a, rfl, _, _, rfl, rfl, _, rfl, h⟩) (fun z H' Q h => ⟨.int z, rfl, h⟩) (fun _ => rfl) (fun H6 s6 e6 => ?_)
      refine ⟨D1, _, rfl, .inl (SqL.of e6), ?_⟩
      have el : ((ns.filter fun b => decide (a < b)).map V.int).length ≤ 59 := by
        rw [List.length_map]
        refine Nat.le_trans (List.length_filter_le _ _) ?_
        omega
      revert el
      generalize ((ns.filter fun b => decide (a < b)).map V.int).length = e
      intro el
      have T6 := T4.same s6
      have k6 := kp.trans (Kp.of (B := Off t g) s6)
      have G6 := hG.same s6
      have eo6 := s6 _ _ e4
      -- some
      refine ⟨.ref t, rfl, t, g, n + 102 + 6 * i, 3, rfl, T6, by omega, by decide, by decide, fun H7 r7 k7 T7 a7 b7 => ?_⟩
      refine ⟨.ref t, rfl, _, rfl, _, _, rfl, rfl, t, g, n + 102 + 6 * i + 1, _, rfl, T7, by omega, by omega, ?_, fun H8 r8 k8 T8 a8 b8 => ?_⟩
      · exact Int.lt_of_le_of_lt (show (many : Int) + 1 ≤ 60 by omega) (by decide)
      refine ⟨_, _, rfl, rfl, ⟨by decide, by decide, by decide⟩, _, _, rfl, rfl, .ref t, rfl, t, g, n + 102 + 6 * i + 2, 9, rfl, T8, by omega, by decide, by decide, fun H9 r9 k9 T9 a9 b9 => ?_⟩
      refine ⟨_, _, rfl, rfl, _, rfl, _, _, rfl, rfl, ⟨by decide, by decide⟩, (by show 5 ≤ sizeLine; decide), fun p np => ?_⟩
      dsimp only [gName]
      have k9' := ((k6.trans k7).trans k8).trans k9
      have kpp : Kp (Off t g) H6 H9 := (k7.trans k8).trans k9
      have G9 : GsAt H9 (fun b => H b = none) D ts gs := G6.keep fun z x hz e => kpp z x (offD z hz) e
      have eo9 := kpp _ _ oo eo6
      have op : Off t g p := T9.off np
      have npH : H p = none := k9'.none op np
      have h5 : ∃ xs5 : List V, xs5 = [V.int 0, .int r7, .int r8, .int (10 ^ Int.toNat 30 - 1 - r9), .int ((e : Int) / 2)] := ⟨_, rfl⟩
      obtain ⟨xs5, hxs5⟩ := h5
      have hpos5 : ∀ v ∈ xs5, ∃ z : Int, v = .int z ∧ 0 ≤ z ∧ z < 2000000000000000000000000000000 := fun v m => by
        have e30 : (10 : Int) ^ Int.toNat 30 = 1000000000000000000000000000000 := by decide
        rw [hxs5] at m
        rcases List.mem_cons.mp m with rfl | m
        · exact ⟨_, rfl, by decide, by decide⟩
        rcases List.mem_cons.mp m with rfl | m
        · exact ⟨_, rfl, a7, by omega⟩
        rcases List.mem_cons.mp m with rfl | m
        · exact ⟨_, rfl, a8, by omega⟩
        rcases List.mem_cons.mp m with rfl | m
        · exact ⟨_, rfl, by omega, by omega⟩
        rw [List.mem_singleton.mp m]
        exact ⟨_, rfl, by omega, by omega⟩
      have l5 : xs5.length = 5 := by
        rw [hxs5]
        rfl
      have s9 : Same H9 (upd H9 p (.lst xs5)) := same_new np
      have ep : upd H9 p (.lst xs5) p = some (.lst xs5) := upd_same
      have Ta := T9.mut (o := .lst xs5) op
      rw [← hxs5]
      revert s9 ep Ta
      generalize upd H9 p (.lst xs5) = Ha
      intro s9 ep Ta
      -- some.append(max(0, 3 - elders // 3))
      refine ⟨.ref p, rfl, .inl ⟨rfl, _, SqL.of ep⟩, _, rfl, _, _, rfl, rfl, ⟨by decide, by decide⟩, _, _, rfl, rfl, _, _, rfl, p, _, _, rfl, rfl, ep, ils (by rw [l5]; decide), ?_⟩
      have hl6 : ∃ m6 : Int, m6 = (if 3 - (e : Int) / 3 > 0 then 3 - (e : Int) / 3 else 0) ∧ 0 ≤ m6 ∧ m6 < 2000000000000000000000000000000 := ⟨_, rfl, by split <;> omega, by split <;> omega⟩
      obtain ⟨m6, hm6, hm60⟩ := hl6
      rw [← hm6]
      have hpos6 : ∀ v ∈ xs5 ++ [V.int m6], ∃ z : Int, v = .int z ∧ 0 ≤ z ∧ z < 2000000000000000000000000000000 := fun v m => by
        rcases List.mem_append.mp m with m | m
        · exact hpos5 v m
        · rw [List.mem_singleton.mp m]
          exact ⟨_, rfl, hm60⟩
      have l6 : (xs5 ++ [V.int m6]).length = 6 := by
        rw [List.length_append, l5]
        rfl
      revert hpos6 l6
      generalize xs5 ++ [V.int m6] = xs6
      intro hpos6 l6
      have Kb : Kp (Off t g) H9 (upd Ha p (.lst xs6)) := (Kp.of s9).mutF np
      have KbD : Kp (fun b => b ≠ p) Ha (upd Ha p (.lst xs6)) := Kp.mut Kp.refl fun z => z rfl
      have Tb := Ta.mut (o := .lst xs6) op
      have epb : upd Ha p (.lst xs6) p = some (.lst xs6) := upd_same
      have Gb : GsAt (upd Ha p (.lst xs6)) (fun b => H b = none) D ts gs := G9.newTop' (fun b m => by
        obtain ⟨v, ev⟩ := G9.there b m
        exact fun z => by
          rw [z, np] at ev
          cases ev) (fun b u hb e => by
          rw [upd_ne hb]
          exact s9 _ _ e)
      have eob : upd Ha p (.lst xs6) o = some (.lst (ns.map V.int)) := by
        rw [upd_ne (ne_of_none eo9 np)]
        exact s9 _ _ eo9
      revert Kb Tb epb Gb eob
      generalize upd Ha p (.lst xs6) = Hb
      intro Kb Tb epb Gb eob
      -- found.append((old, some[[kind, _law_take(deck, 6)][int(_law_take(deck, 3) == 0)]]))
      refine ⟨.ref D, rfl, .inl ⟨rfl, _, Gb.seq⟩, _, rfl, .ref p, rfl, _, rfl, .ref t, rfl, t, g, n + 102 + 6 * i + 3, 6, rfl, Tb, by omega, by decide, by decide, fun Hc rc kc Tc ac bc => ?_⟩
      refine ⟨(by show 2 ≤ sizeLine; decide), fun p2 np2 => ?_⟩
      have op2 : Off t g p2 := Tc.off np2
      refine ⟨.ref t, rfl, t, g, n + 102 + 6 * i + 4, 3, rfl, Tc.mut op2, by omega, by decide, by decide, fun Hd rd kd' Td ad bd => ?_⟩
      have kbd : Kp (Off t g) Hb Hd := (kc.trans (Kp.of (same_new np2))).trans kd'
      have pick : ∀ j : Int, 0 ≤ j → j < 2 → ∃ z z' : Int, atI [V.int kd, V.int rc] j = some (.int z) ∧ atI xs6 z = some (.int z') ∧ 0 ≤ z' ∧ z' < 2000000000000000000000000000000 := fun j j0 j2 => by
        obtain ⟨v, hv, mv⟩ := at_pick (xs := [V.int kd, .int rc]) j0 j2
        have hz : ∃ z : Int, v = .int z ∧ 0 ≤ z ∧ z < 6 := by
          rcases List.mem_cons.mp mv with rfl | mv
          · exact ⟨_, rfl, a2, b2⟩
          · rw [List.mem_singleton.mp mv]
            exact ⟨_, rfl, ac, bc⟩
        obtain ⟨z, rfl, z0, z6⟩ := hz
        obtain ⟨y, hy, my⟩ := at_pick (xs := xs6) z0 (by rw [l6]; exact z6)
        obtain ⟨z', rfl, hz'⟩ := hpos6 y my
        exact ⟨z, z', hv, hy, hz'⟩
      obtain ⟨z, z', hz1, hz2, hz3⟩ := pick (if decide (V.int rd = V.int 0) then 1 else 0) (by split <;> decide) (by split <;> decide)
      refine ⟨rfl, .inr ⟨_, rfl, p2, _, _, _, rfl, rfl, SqL.of (kd' _ _ op2 upd_same), hz1, p, _, _, _, rfl, rfl, SqL.of (kbd _ _ op epb), hz2, (by show 2 ≤ sizeLine; decide), fun u nu => ?_⟩⟩
      have Kd : Kp (Off t g) H Hd := (k9'.trans Kb).trans kbd
      have ou : Off t g u := Td.off nu
      have nu0 : H u = none := Kd.none ou nu
      have Gd : GsAt Hd (fun b => H b = none) D ts gs := Gb.keep fun z x hz e => kbd z x (offD z hz) e
      have Gu := Gd.same (same_new (o := .tup [.int a, .int z']) nu)
      have hDn : D ∉ ts := fun m => by
        obtain ⟨j, ej⟩ := List.mem_iff_getElem?.mp m
        have hl := at_lt ej
        rw [Gd.len] at hl
        obtain ⟨x, ex⟩ := at_some hl
        have e1 := Gd.at' j D x ej ex
        rw [Gd.top] at e1
        cases e1
      refine ⟨D, _, _, rfl, rfl, Gu.top, ils (by rw [List.length_map, Gd.len]; omega), _, _, _, ts ++ [u], gs ++ [(a, z')], rfl, ?_, ?_, Gu.push hDn (g := (a, z')) upd_same nu0, ?_, ?_, ?_, ?_⟩
      · exact (Kd.new nu).mutF nD0
      · rw [upd_ne hDo, upd_ne (ne_of_none (kbd _ _ oo eob) nu)]
        exact kbd _ _ oo eob
      · rw [List.map_append, hgs, take_snoc ea]
        rfl
      · intro x mx
        rcases List.mem_append.mp mx with mx | mx
        · exact hpos x mx
        · rw [List.mem_singleton.mp mx]
          exact hz3
      · exact ((Td.mut ou).mut oD).more (by omega)
      · intro m
        rcases List.mem_append.mp m with m | m
        · exact hot m
        · exact ne_of_none (kbd _ _ oo eob) nu (List.mem_singleton.mp m)
    · obtain ⟨y6, y7, y8, ts, gs, rfl, kp, e4, hG, hgs, hpos, T4, hot⟩ := hW
      rw [List.length_map, List.take_length] at hgs
      refine ⟨_, rfl, q _ D ts gs kp (T4.more ?_) hG ⟨by rw [hgs]; exact hnd, fun z m => (hpos z m).1⟩ ?_ fun z m => ⟨hlow _ (by rw [← hgs]; exact List.mem_map_of_mem m), (hpos z m).2⟩⟩
      · rw [List.length_map]
        omega
      · have := congrArg List.length hgs
        rw [List.length_map] at this
        omega
end
end El
namespace El
open PySem PySem.Spec PyProof.Rows L2
section
variable {P : Program} {w : World} {K : PySem.W.Frag} {mg : Str → Option Value} {base : Heap}
abbrev s_Inn_rooms : Stmt := inClass (topS 12) 5
abbrev N_Inn_rooms : List Str := ["self", "room"]
abbrev P_Inn_rooms : List Str := ["self"]
theorem sc_Inn_rooms : FnScope N_Inn_rooms P_Inn_rooms (defScope s_Inn_rooms) := ⟨rfl, rfl, rfl, by decide +kernel, rfl, by decide +kernel, by decide +kernel⟩
def sp_Inn_rooms (C : Addr) : Sp := fun vs H Q _ => ∃ (B : Addr → Prop) (p d o : Addr) (ts : List Addr) (gs : List (Int × Int)) (rs : List (List Int)), vs = [.ref p] ∧ InnAt C H B p d o ts gs rs ∧ rs.length ≤ 1000 ∧
  ∀ (H' : Hp) (q : Addr) (us : List Addr), Same H H' → RmsAt H' (fun b => H b = none) q us rs → Q (.ref q) H'
theorem ok_Inn_rooms {C : Addr} (A : Ma K C "rooms" "Inn.rooms" P_Inn_rooms s_Inn_rooms) (B : Bi mg) (T : InnT K mg C) : Mf P w K mg base 1 C "rooms" "Inn.rooms" P_Inn_rooms s_Inn_rooms (sp_Inn_rooms C) := by
  refine A.mf fun f fd F => F.ok sc_Inn_rooms (fun vs H Q E h => ?_) (fun cdv AA outer s H vs Q E hr h => ?_)
  · obtain ⟨_, _, _, _, _, _, _, rfl, _⟩ := h
    rfl
  · obtain ⟨BB, p, d, o, ts, gs, rs, rfl, hI, hl, q⟩ := h
    have nd := sc_Inn_rooms.nd
    refine ⟨_, (pss_one (ps_ret (pe_lc (own := [("room", 1)]) (tt := tYes) rfl nd (pi_list (pe_fld (pv 0) rfl)) (blkOk_by (N := N_Inn_rooms) (sc := defScope s_Inn_rooms) (by decide +kernel)) (fun _ _ _ _ _ => (pg_name (i := 1) nd rfl (.inl rfl))) (fun _ _ _ _ _ => pts_nil) (fun _ _ _ _ _ => (pe_callTy (listOfK K) (by rfl) B.list_ (by decide +kernel) (pa_cons (pv 1) pa_nil)))))), ?_⟩
    obtain ⟨dx, hp⟩ := hI.ob
    refine ⟨_, rfl, p, C, dx, _, _, rfl, hp, T.cl, T.nR, iflds_r _ _, o, rfl, ⟨_, hI.rm.seq⟩, fun D nD => ?_⟩
    refine lc_it (walk_list (xs := ts.map V.ref)) (fun k H2 => Same H H2 ∧ ∃ us, RmsAt H2 (fun z => H z = none) D us (rs.take k)) ⟨same_new nD, [], RmsAt.nil upd_same nD⟩ (fun k H2 _ hW => (hI.rm.same hW.1).seq) (fun k x H2 H3 hk hW hY => ?_) (fun H2 hW => ?_)
    · obtain ⟨sm, us, hL⟩ := hW
      obtain ⟨rfl, hx⟩ := hY
      obtain ⟨t, r, rfl, _, er, et⟩ := (hI.rm.same sm).get hx
      refine ⟨rfl, .ref t, rfl, t, _, rfl, .inl (SqL.of et), fun u nu => ?_⟩
      have hL2 := hL.same (same_new (o := .lst (r.map V.int)) nu)
      have nu0 : H u = none := sm.free nu
      have uD : u ≠ D := no_of hL.top nu
      have uus : u ∉ us := fun m => by
        obtain ⟨x, ex⟩ := hL.lives m
        rw [nu] at ex
        cases ex
      have fin := hL2.addN (u := u) (r := r) upd_same nu0 uus uD
      rw [← take_snoc er] at fin
      refine ⟨_, hL2.top, ils ?_, Same.mut (sm.trans (same_new nu)) nD, _, fin⟩
      rw [List.length_map, hL.len, List.length_take]
      omega
    · obtain ⟨sm, us, hL⟩ := hW
      rw [List.length_map, hI.rm.len, List.take_length] at hL
      exact q H2 D us sm hL
end
end El
namespace El
open PySem PySem.Spec PyProof.Rows L2
section
variable {P : Program} {w : World} {K : PySem.W.Frag} {mg : Str → Option Value} {base : Heap}
abbrev s_Inn__check_there : Stmt := inClass (topS 12) 10
abbrev N_Inn__check_there : List Str := ["self", "age"]
abbrev P_Inn__check_there : List Str := ["self", "age"]
theorem sc_Inn__check_there : FnScope N_Inn__check_there P_Inn__check_there (defScope s_Inn__check_there) := ⟨rfl, rfl, rfl, by decide +kernel, rfl, by decide +kernel, by decide +kernel⟩
theorem pks_is {gs : List (Int × Int)} {a : Int} (nd : (gs.map (·.1)).Nodup) (m : a ∈ gs.map (·.1)) : valV (pks gs) (Sum.inl a) = some (.int (pof gs a)) := by
  obtain ⟨g, hg, rfl⟩ := List.mem_map.mp m
  rw [pks_some nd hg, pof_is nd hg]
def sp_Inn__check_there (C : Addr) : Sp := fun vs H Q _ => ∃ (B : Addr → Prop) (p d o : Addr) (ts : List Addr) (gs : List (Int × Int)) (rs : List (List Int)) (a : Int), vs = [.ref p, .int a] ∧ InnAt C H B p d o ts gs rs ∧ (gs.map (·.1)).Nodup ∧ a ∈ gs.map (·.1) ∧ Q .non H
theorem ok_Inn__check_there {C : Addr} (A : Ma K C "_check_there" "Inn._check_there" P_Inn__check_there s_Inn__check_there) (T : InnT K mg C) : Mf P w K mg base 1 C "_check_there" "Inn._check_there" P_Inn__check_there s_Inn__check_there (sp_Inn__check_there C) := by
  refine A.mf fun f fd F => F.ok sc_Inn__check_there (fun vs H Q E h => ?_) (fun cdv AA outer s H vs Q E hr h => ?_)
  · obtain ⟨_, _, _, _, _, _, _, _, rfl, _⟩ := h
    rfl
  · obtain ⟨BB, p, d, o, ts, gs, rs, a, rfl, hI, hnd, ha, q⟩ := h
    have nd := sc_Inn__check_there.nd
    refine ⟨_, (pss_one (ps_if (pt_cmp (pc_dnotin (hu_of hr) (pv 1) (pe_fld (pv 0) rfl))) (pss_one ps_never) pss_nil)), ?_⟩
    obtain ⟨dx, hp⟩ := hI.ob
    refine ⟨_, rfl, _, rfl, p, C, dx, _, _, rfl, hp, T.cl, T.nP, iflds_p _ _, d, _, rfl, DGet.k (k := Sum.inl a) hI.dc, _, rfl, ?_⟩
    rw [pks_is hnd ha]
    exact iteF q
end
end El
namespace El
open PySem PySem.Spec PyProof.Rows L2
section
variable {P : Program} {w : World} {K : PySem.W.Frag} {mg : Str → Option Value} {base : Heap}
abbrev s_Inn_where : Stmt := inClass (topS 12) 6
abbrev N_Inn_where : List Str := ["self", "age", "room"]
abbrev P_Inn_where : List Str := ["self", "age"]
theorem sc_Inn_where : FnScope N_Inn_where P_Inn_where (defScope s_Inn_where) := ⟨rfl, rfl, rfl, by decide +kernel, rfl, by decide +kernel, by decide +kernel⟩
def sp_Inn_where (C : Addr) : Sp := fun vs H Q _ => ∃ (B : Addr → Prop) (p d o : Addr) (ts : List Addr) (gs : List (Int × Int)) (rs : List (List Int)) (a : Int) (m : Nat) (S : List Int), vs = [.ref p, .int a] ∧ InnAt C H B p d o ts gs rs ∧ (gs.map (·.1)).Nodup ∧ a ∈ gs.map (·.1) ∧ rs.length ≤ 1000 ∧
  rs[m]? = some S ∧ a ∈ S ∧ (∀ (j : Nat) (r : List Int), rs[j]? = some r → a ∈ r → j = m) ∧ ∀ H', Same H H' → Q (.int m) H'
theorem ok_Inn_where {C : Addr} (A : Ma K C "where" "Inn.where" P_Inn_where s_Inn_where) (B : Bi mg) (T : InnT K mg C) (M__check_there : Mf P w K mg base 1 C "_check_there" "Inn._check_there" P_Inn__check_there s_Inn__check_there (sp_Inn__check_there C)) :
    Mf P w K mg base 2 C "where" "Inn.where" P_Inn_where s_Inn_where (sp_Inn_where C) := by
  refine A.mf fun f fd F => F.ok sc_Inn_where (fun vs H Q E h => ?_) (fun cdv AA outer s H vs Q E hr h => ?_)
  · obtain ⟨_, _, _, _, _, _, _, _, _, _, rfl, _⟩ := h
    rfl
  · obtain ⟨BB, p, d, o, ts, gs, rs, a, m, S, rfl, hI, hnd, ha, hl, eS, mS, only, q⟩ := h
    have nd := sc_Inn_where.nd
    refine ⟨_, (pss_cons (ps_expr (pe_mf M__check_there T.cl (hr.mono (by decide)) (pv 0) (pa_cons (pv 1) pa_nil)))
    (pss_one (ps_ret (pe_bm PySem.F.plainAttrs_list PySem.F.slot_list_index PySem.F.type_list_index (mtIndexK K) (pe_lc (own := [("room", 2)]) (tt := tYes) rfl nd (pi_list (pe_fld (pv 0) rfl)) (blkOk_by (N := N_Inn_where) (sc := defScope s_Inn_where) (by decide +kernel)) (fun _ _ _ _ _ => (pg_name (i := 2) nd rfl (.inl rfl))) (fun _ _ _ _ _ => pts_nil) (fun _ _ _ _ _ => (pe_cmpR (inK K) (pv 1) (pv 2) (by rfl)))) (pa_cons pe_bl pa_nil))))), ?_⟩
    obtain ⟨dx, hp⟩ := hI.ob
    refine ⟨.ref p, rfl, p, dx, _, rfl, hp, iflds_no _ _ (by decide +kernel) (by decide +kernel), _, rfl, BB, p, d, o, ts, gs, rs, a, rfl, hI, hnd, ha, ?_⟩
    refine ⟨_, rfl, p, C, dx, _, _, rfl, hp, T.cl, T.nR, iflds_r _ _, o, rfl, ⟨_, hI.rm.seq⟩, fun D nD => ?_⟩
    refine lc_it (walk_list (xs := ts.map V.ref)) (fun k H2 => Same H H2 ∧ H2 D = some (.lst ((rs.take k).map fun r => V.bl (decide (a ∈ r))))) ⟨same_new nD, upd_same⟩ (fun k H2 _ hW => (hI.rm.same hW.1).seq) (fun k x H2 H3 hk hW hY => ?_) (fun H2 hW => ?_)
    · obtain ⟨sm, eD⟩ := hW
      obtain ⟨rfl, hx⟩ := hY
      obtain ⟨t, r, rfl, _, er, et⟩ := (hI.rm.same sm).get hx
      refine ⟨rfl, .int a, rfl, .ref t, rfl, t, _, rfl, .inl (SqL.of et), rfl, flat_ints r, _, eD, ils ?_, Same.mut sm nD, ?_⟩
      · rw [List.length_map, List.length_take]
        omega
      · rw [upd_same, take_snoc er, List.map_append]
        show some (HO.lst (_ ++ [V.bl (inV (.int a) (r.map V.int))])) = _
        rw [inV_ints]
        rfl
    · obtain ⟨sm, eD⟩ := hW
      rw [List.length_map, hI.rm.len, List.take_length] at eD
      refine ⟨.inl ⟨rfl, _, SqL.of eD⟩, D, _, .bl true, m, .bl true, rfl, rfl, SqL.of eD, rfl, ?_, ?_, rfl, fun j z hj ez => ?_, q H2 sm⟩
      · rw [List.all_map, List.all_eq_true]
        intro r _
        rfl
      · rw [List.getElem?_map, eS]
        show some (V.bl (decide (a ∈ S))) = _
        rw [decide_eq_true mS]
      · rw [List.getElem?_map] at ez
        cases er : rs[j]? with
        | none =>
          rw [er] at ez
          cases ez
        | some r =>
          rw [er] at ez
          obtain rfl : V.bl (decide (a ∈ r)) = z := Option.some.inj ez
          rw [decide_eq_false fun y => absurd (only j r er y) (by omega)]
          rfl
end
end El
namespace El
open PySem PySem.Spec PyProof.Rows L2
section
variable {P : Program} {w : World} {K : PySem.W.Frag} {mg : Str → Option Value} {base : Heap}
abbrev s_Inn__bears : Stmt := inClass (topS 12) 13
abbrev N_Inn__bears : List Str := ["self", "age", "number", "elders", "other"]
abbrev P_Inn__bears : List Str := ["self", "age", "number"]
theorem sc_Inn__bears : FnScope N_Inn__bears P_Inn__bears (defScope s_Inn__bears) := ⟨rfl, rfl, rfl, by decide +kernel, rfl, by decide +kernel, by decide +kernel⟩
def sp_Inn__bears (C : Addr) : Sp := fun vs H Q _ => ∃ (B : Addr → Prop) (p d o : Addr) (ts : List Addr) (gs : List (Int × Int)) (rs : List (List Int)) (a : Int) (n : Nat) (R : List Int), vs = [.ref p, .int a, .int n] ∧ InnAt C H B p d o ts gs rs ∧ (gs.map (·.1)).Nodup ∧ a ∈ gs.map (·.1) ∧
  rs[n]? = some R ∧ R.length ≤ 1000 ∧ ∀ H', Same H H' → Q (.bl (bearB gs R a)) H'
theorem ok_Inn__bears {C : Addr} (A : Ma K C "_bears" "Inn._bears" P_Inn__bears s_Inn__bears) (B : Bi mg) (T : InnT K mg C) : Mf P w K mg base 1 C "_bears" "Inn._bears" P_Inn__bears s_Inn__bears (sp_Inn__bears C) := by
  refine A.mf fun f fd F => F.ok sc_Inn__bears (fun vs H Q E h => ?_) (fun cdv AA outer s H vs Q E hr h => ?_)
  · obtain ⟨_, _, _, _, _, _, _, _, _, _, rfl, _⟩ := h
    rfl
  · obtain ⟨BB, p, d, o, ts, gs, rs, a, n, R, rfl, hI, hnd, ha, eR, hl, q⟩ := h
    have nd := sc_Inn__bears.nd
    refine ⟨_, (pss_cons (ps_setLc (i := 3) (own := [("other", 4)]) rfl nd rfl rfl (sw_true rfl rfl rfl (by decide +kernel)) (pi_list (pe_ix ix_list (pe_fld (pv 0) rfl) (pv 2) (fun _ _ => rfl))) (blkOk_by (N := N_Inn__bears) (sc := defScope s_Inn__bears) (by decide +kernel)) (fun _ _ _ _ _ => (pg_name (i := 4) nd rfl (.inl rfl))) (fun _ _ _ _ _ => (pts_one (pt_cmpR op_gt (pv 4) (pv 1) (nomark _)))) (fun _ _ _ _ _ => (pv 4)))
    (pss_one (ps_ret (pe_cmpR op_le (pe_callB call_len_seq (by rfl) B.len PySem.boot_len (pa_cons (pv 3) pa_nil)) (pe_dget (hu_of hr) (pe_fld (pv 0) rfl) (pv 1) (fun _ _ => rfl)) (nomark _))))), ?_⟩
    obtain ⟨dx, hp⟩ := hI.ob
    obtain ⟨t, et, hR⟩ := hI.rm.of eR
    have at5 : (ts.map V.ref)[n]? = some (.ref t) := by
      rw [List.getElem?_map, et]
      rfl
    refine ⟨_, rfl, p, C, dx, _, _, rfl, hp, T.cl, T.nR, iflds_r _ _, _, rfl, o, _, _, .ref t, rfl, rfl, SqL.of hI.rm.top, atI_nat (j := n) at5, t, rfl, ⟨_, SqL.of hR⟩, fun D nD => ?_⟩
    refine lc_sel (fun z => decide (a < z)) hR nD hl (fun z H' Q h => ⟨.int z, rfl, .int a, rfl, _, _, rfl, rfl, _, rfl, h⟩) (fun z H' Q h => ⟨.int z, rfl, h⟩) (fun _ => rfl) (fun H2 s2 e2 => ?_)
    have I2 := hI.same s2
    refine ⟨.ref D, rfl, D, _, rfl, .inl (SqL.of e2), _, rfl, p, C, dx, _, _, rfl, s2 _ _ hp, T.cl, T.nP, iflds_p _ _, .int a, rfl, d, _, rfl, dget_pof I2.dc hnd ha, _, _, rfl, rfl, ?_⟩
    have := q H2 s2
    unfold bearB eldN at this
    rw [List.length_map]
    exact this
end
end El
namespace El
open PySem PySem.Spec PyProof.Rows L2
section
variable {P : Program} {w : World} {K : PySem.W.Frag} {mg : Str → Option Value} {base : Heap}
abbrev s_Inn__eldest_back : Stmt := inClass (topS 12) 12
abbrev N_Inn__eldest_back : List Str := ["self", "number", "behind", "room", "age"]
abbrev P_Inn__eldest_back : List Str := ["self", "number"]
theorem sc_Inn__eldest_back : FnScope N_Inn__eldest_back P_Inn__eldest_back (defScope s_Inn__eldest_back) := ⟨rfl, rfl, rfl, by decide +kernel, rfl, by decide +kernel, by decide +kernel⟩
def oV : Option Int → V
  | none => .non
  | some a => .int a
def sp_Inn__eldest_back (C : Addr) : Sp := fun vs H Q _ => ∃ (B : Addr → Prop) (p d o : Addr) (ts : List Addr) (gs : List (Int × Int)) (rs : List (List Int)) (n : Nat) (R : List Int), vs = [.ref p, .int n] ∧ InnAt C H B p d o ts gs rs ∧ (gs.map (·.1)).Nodup ∧ (∀ a ∈ rs.flatten, a ∈ gs.map (·.1)) ∧ rs.length ≤ 1000 ∧ rs.flatten.length ≤ 1000 ∧
  rs[n]? = some R ∧ ∀ H', Same H H' → Q (oV (backE gs rs n)) H'
theorem flat_take_le (rs : List (List Int)) (m : Nat) : (rs.take m).flatten.length ≤ rs.flatten.length := by
  have := congrArg List.length (congrArg List.flatten (List.take_append_drop m rs))
  rw [List.flatten_append, List.length_append] at this
  omega
theorem flat_drop_le (rs : List (List Int)) (m : Nat) : (rs.drop m).flatten.length ≤ rs.flatten.length := by
  have := congrArg List.length (congrArg List.flatten (List.take_append_drop m rs))
  rw [List.flatten_append, List.length_append] at this
  omega
theorem ok_Inn__eldest_back {C : Addr} (A : Ma K C "_eldest_back" "Inn._eldest_back" P_Inn__eldest_back s_Inn__eldest_back) (B : Bi mg) (T : InnT K mg C) (M__bears : Mf P w K mg base 1 C "_bears" "Inn._bears" P_Inn__bears s_Inn__bears (sp_Inn__bears C)) :
    Mf P w K mg base 2 C "_eldest_back" "Inn._eldest_back" P_Inn__eldest_back s_Inn__eldest_back (sp_Inn__eldest_back C) := by
  refine A.mf fun f fd F => F.ok sc_Inn__eldest_back (fun vs H Q E h => ?_) (fun cdv AA outer s H vs Q E hr h => ?_)
  · obtain ⟨_, _, _, _, _, _, _, _, _, rfl, _⟩ := h
    rfl
  · obtain ⟨BB, p, d, o, ts, gs, rs, n, R, rfl, hI, hnd, hin, hl, hf, eR, q⟩ := h
    have nd := sc_Inn__eldest_back.nd
    refine ⟨_, (pss_cons (ps_setLc2 (i := 2) (own := [("room", 3), ("age", 4)]) (vs1 := [4]) (tt := tYes) (tt1 := tYes) rfl nd rfl rfl (sw_true rfl rfl rfl (by decide +kernel)) (pi_list (pe_slice sl_list (pe_fld (pv 0) rfl) (po_some (pe_op op_add (pv 1) pe_int)) po_none)) (blkOk_by (N := N_Inn__eldest_back) (sc := defScope s_Inn__eldest_back) (by decide +kernel)) (by decide) (fun _ _ _ _ _ => (pg_name (i := 3) nd rfl (.inl rfl))) (fun _ _ _ _ _ => pts_nil) (fun _ _ _ _ _ => (piListK K (pv 3))) (fun _ _ _ _ _ => (pg_name (i := 4) nd rfl (.inl rfl))) (fun _ _ _ _ _ => pts_nil) (fun _ _ _ _ _ => (pv 4)))
    (pss_one (ps_ret (pe_callBK (cr_maxDf K hr.units rfl) (by rfl) B.max (by decide +kernel) (pa_cons (pe_lc (own := [("age", 4)]) rfl nd (pi_list (pv 2)) (blkOk_by (N := N_Inn__eldest_back) (sc := defScope s_Inn__eldest_back) (by decide +kernel)) (fun _ _ _ _ _ => (pg_name (i := 4) nd rfl (.inl rfl))) (fun _ _ _ _ _ => (pts_one (pt_val (pe_mf M__bears T.cl (hr.mono (by decide)) (pv 0) (pa_cons (pv 4) (pa_cons (pv 1) pa_nil)))))) (fun _ _ _ _ _ => (pv 4))) pa_nil) (pk_cons pe_non pk_nil))))), ?_⟩
    obtain ⟨dx, hp⟩ := hI.ob
    -- behind
    refine ⟨_, rfl, p, C, dx, _, _, rfl, hp, T.cl, T.nR, iflds_r _ _, _, rfl, _, _, rfl, rfl, _, rfl, o, _, rfl, hI.rm.seq, fun z nz => ?_⟩
    rw [show ((n : Int) + 1) = ((n + 1 : Nat) : Int) by omega, cut_from, ← List.map_drop]
    have sz : Same H (upd H z (.lst ((ts.drop (n + 1)).map V.ref))) := same_new nz
    have ez : upd H z (.lst ((ts.drop (n + 1)).map V.ref)) z = some (.lst ((ts.drop (n + 1)).map V.ref)) := upd_same
    have I1 := hI.same sz
    revert sz ez I1
    generalize upd H z (.lst ((ts.drop (n + 1)).map V.ref)) = H1
    intro sz ez I1
    refine ⟨z, rfl, ⟨_, SqL.of ez⟩, fun D nD => ?_⟩
    have hdr : ∀ m, ((rs.drop (n + 1)).take m).flatten.length ≤ 1000 := fun m => Nat.le_trans (flat_take_le _ _) (Nat.le_trans (flat_drop_le _ _) hf)
    refine out_it (walk_list (xs := (ts.drop (n + 1)).map V.ref)) (fun i H3 => Same H1 H3 ∧ H3 D = some (.lst ((((rs.drop (n + 1)).take i).flatten).map V.int))) ⟨same_new nD, upd_same⟩ (fun i H3 _ hW => ?_) (fun i x H3 H4 hi hW hY => ?_) (fun H3 hW => ?_)
    · exact SqL.of (hW.1 _ _ ez)
    · obtain ⟨sm, hD⟩ := hW
      obtain ⟨rfl, hx⟩ := hY
      obtain ⟨t, et0, rfl⟩ := refs_at hx
      have hi' : i < (rs.drop (n + 1)).length := by
        have := at_lt et0
        rw [List.length_drop] at this ⊢
        rw [← hI.rm.len]
        exact this
      obtain ⟨r, er⟩ := at_some hi'
      have et1 : H1 t = some (.lst (r.map V.int)) := by
        refine I1.rm.at' (n + 1 + i) t r ?_ ?_
        · rw [← List.getElem?_drop]
          exact et0
        · rw [← List.getElem?_drop]
          exact er
      have et := sm _ _ et1
      have ntD : t ≠ D := ne_of_none et1 nD
      refine ⟨rfl, .ref t, rfl, t, rfl, ⟨_, SqL.of et⟩, ?_⟩
      have hlen := hdr (i + 1)
      rw [take_snoc_flat er, List.length_append] at hlen
      refine out_it (walk_list (xs := r.map V.int)) (fun k H5 => Same H1 H5 ∧ H5 D = some (.lst ((((rs.drop (n + 1)).take i).flatten ++ r.take k).map V.int))) ⟨sm, by rw [List.take_zero, List.append_nil]; exact hD⟩ (fun k H5 _ hW => ?_) (fun k x H5 H6 hk hW hY => ?_) (fun H5 hW => ?_)
      · exact SqL.of (hW.1 _ _ et1)
      · obtain ⟨sm5, hD5⟩ := hW
        obtain ⟨rfl, hx⟩ := hY
        obtain ⟨a', ea, rfl⟩ := ints_at hx
        refine ⟨rfl, .int a', rfl, _, hD5, ils (by rw [List.length_map, List.length_append, List.length_take]; omega), Same.mut sm5 nD, ?_⟩
        rw [upd_same, take_snoc ea, ← List.append_assoc, List.map_append (l₂ := [a'])]
        rfl
      · obtain ⟨sm5, hD5⟩ := hW
        rw [List.length_map, take_full, ← take_snoc_flat er] at hD5
        exact ⟨sm5, hD5⟩
    · obtain ⟨sm, hD⟩ := hW
      rw [List.length_map, show (ts.drop (n + 1)).length = (rs.drop (n + 1)).length by rw [List.length_drop, List.length_drop, hI.rm.len], take_full] at hD
      have I3 := I1.same sm
      have s3 := sz.trans sm
      dsimp only [gName]
      have lB : (rs.drop (n + 1)).flatten.length ≤ 1000 := Nat.le_trans (flat_drop_le _ _) hf
      have inB : ∀ a ∈ (rs.drop (n + 1)).flatten, a ∈ gs.map (·.1) := fun a m => hin a (by
        obtain ⟨r, hr, ha⟩ := List.mem_flatten.mp m
        exact List.mem_flatten.mpr ⟨r, List.mem_of_mem_drop hr, ha⟩)
      have lR : R.length ≤ 1000 := Nat.le_trans (room_le_flat _ _ (List.mem_of_getElem? eR)) hf
      have eb : backE gs rs n = ((rs.drop (n + 1)).flatten.filter (bearB gs R)).max? := by
        unfold backE
        rw [List.getD_eq_getElem?_getD, eR]
        rfl
      rw [eb] at q
      revert lB inB hD q
      generalize (rs.drop (n + 1)).flatten = bh
      intro q hD lB inB
      refine ⟨_, rfl, D, rfl, ⟨_, SqL.of hD⟩, fun D2 nD2 => ?_⟩
      refine lc_it (walk_list (xs := bh.map V.int)) (fun k H5 => Same H3 H5 ∧ H5 D2 = some (.lst (((bh.take k).filter (bearB gs R)).map V.int))) ⟨same_new nD2, upd_same⟩ (fun k H5 _ hW => SqL.of (hW.1 _ _ hD)) (fun k x H5 H6 hk hW hY => ?_) (fun H5 hW => ?_)
      · obtain ⟨sm5, e5⟩ := hW
        obtain ⟨rfl, hx⟩ := hY
        obtain ⟨a', ea, rfl⟩ := ints_at hx
        have I5 := I3.same sm5
        obtain ⟨dx5, hp5⟩ := I5.ob
        refine ⟨rfl, .ref p, rfl, p, dx5, _, rfl, hp5, iflds_no _ _ (by decide +kernel) (by decide +kernel), _, rfl, _, rfl, BB, p, d, o, ts, gs, rs, a', n, R, rfl, I5, hnd, inB a' (List.mem_of_getElem? ea), eR, lR, fun H7 s7 => ⟨_, rfl, ?_⟩⟩
        have es : (bh.take (k + 1)).filter (bearB gs R) = (bh.take k).filter (bearB gs R) ++ if bearB gs R a' = true then [a'] else [] := by
          rw [take_snoc ea, List.filter_append, List.filter_cons, List.filter_nil]
        have hlb : ((bh.take k).filter (bearB gs R)).length ≤ 1000 := by
          refine Nat.le_trans (List.length_filter_le _ _) ?_
          rw [List.length_take]
          omega
        by_cases hb : bearB gs R a' = true
        · refine ifYes hb ⟨.int a', rfl, _, s7 _ _ e5, ils (by rw [List.length_map]; omega), Same.mut (sm5.trans s7) nD2, ?_⟩
          rw [upd_same, es, if_pos hb, List.map_append]
          rfl
        · refine ifNo (by simpa using hb) ⟨sm5.trans s7, ?_⟩
          rw [es, if_neg hb, List.append_nil]
          exact s7 _ _ e5
      · obtain ⟨sm5, e5⟩ := hW
        rw [List.length_map, List.take_length] at e5
        refine ⟨D2, _, .non, rfl, rfl, SqL.of e5, fun en => ?_, fun m hm hm2 => ?_⟩
        · have := q H5 (s3.trans sm5)
          rw [en] at this
          exact this
        · have := q H5 (s3.trans sm5)
          rw [List.max?_eq_some_iff.mpr ⟨hm, hm2⟩] at this
          exact this
end
end El
namespace El
open PySem PySem.Spec PyProof.Rows L2
section
variable {P : Program} {w : World} {K : PySem.W.Frag} {mg : Str → Option Value} {base : Heap}
abbrev s_Inn_go : Stmt := inClass (topS 12) 2
abbrev N_Inn_go : List Str := ["self", "age", "number", "told", "mover", "left"]
abbrev P_Inn_go : List Str := ["self", "age"]
theorem sc_Inn_go : FnScope N_Inn_go P_Inn_go (defScope s_Inn_go) := ⟨rfl, rfl, rfl, by decide +kernel, rfl, by decide +kernel, by decide +kernel⟩
/-- all guests but the one of age a -/
abbrev butA (gs : List (Int × Int)) (a : Int) : List (Int × Int) := gs.filter fun g => decide (g.1 ≠ a)
theorem pks_drop (gs : List (Int × Int)) (a : Int) : dropK (pks gs) (Sum.inl a) = pks (butA gs a) := by
  induction gs with
  | nil => rfl
  | cons g gs ih =>
    by_cases h : g.1 = a
    · rw [show pks (g :: gs) = ((Sum.inl g.1 : L2.Key), V.int g.2) :: pks gs from rfl, dropK_pos (by rw [h]), ih]
      unfold butA
      rw [List.filter_cons, if_neg (by simp [h])]
    · rw [show pks (g :: gs) = ((Sum.inl g.1 : L2.Key), V.int g.2) :: pks gs from rfl, dropK_neg (fun z => h (Sum.inl.inj z)), ih]
      unfold butA
      rw [List.filter_cons, if_pos (decide_eq_true h)]
      rfl
theorem RmsAt.popL {H : Hp} {B : Addr → Prop} {o : Addr} {ts : List Addr} {rs : List (List Int)} {r : List Int} (h : RmsAt H B o ts (rs ++ [r])) : ∃ ts', (ts.map V.ref).dropLast = ts'.map V.ref ∧ RmsAt (upd H o (.lst (ts'.map V.ref))) B o ts' rs := by
  have hl := h.len
  rw [List.length_append, List.length_singleton] at hl
  have e : ts = ts.dropLast ++ [ts.getLast (fun z => by rw [z] at hl; cases hl)] := (List.dropLast_concat_getLast _).symm
  have sub : ∀ t ∈ ts.dropLast, t ∈ ts := fun t m => (List.dropLast_sublist ts).subset m
  have hl2 : ts.dropLast.length = rs.length := by
    rw [List.length_dropLast]
    omega
  refine ⟨ts.dropLast, by rw [List.map_dropLast], upd_same, h.bo, (List.dropLast_sublist ts).nodup h.nd, fun m => h.no (sub _ m), hl2, fun i t x e1 e2 => ?_, fun t m => h.b t (sub t m)⟩
  have nt : t ≠ o := fun z => h.no (z ▸ sub t (List.mem_of_getElem? e1))
  rw [upd_ne nt]
  refine h.at' i t x ?_ ?_
  · rw [e, List.getElem?_append_left (at_lt e1)]
    exact e1
  · rw [List.getElem?_append_left (at_lt e2)]
    exact e2
def sp_Inn_go (C : Addr) : Sp := fun vs H Q _ => ∃ (B : Addr → Prop) (p d o : Addr) (ts : List Addr) (gs : List (Int × Int)) (a : Int), vs = [.ref p, .int a] ∧ InnAt C H B p d o ts gs (settle gs) ∧ Fit gs ∧ a ∈ gs.map (·.1) ∧ gs.length ≤ 400 ∧
  ∀ H' q us ts', InnAt C H' (Apart B H q us) p d o ts' (butA gs a) (settle (butA gs a)) → GsAt H' (fun b => H b = none) q us (goT gs a) → Kp (fun b => ¬ B b) H H' → (∀ b, H' b = none → H b = none) → Q (.ref q) H'
/-- how it stands within go -/
structure Gs (C : Addr) (B : Addr → Prop) (H : Hp) (p d o q : Addr) (gs : List (Int × Int)) (T : List (Int × Int)) (us ts : List Addr) (rs : List (List Int)) (H2 : Hp) : Prop where
  g : GsAt H2 (fun b => H b = none) q us T
  i : InnAt C H2 (Apart B H q us) p d o ts gs rs
  k : Kp (fun b => ¬ B b) H H2
  v : ∀ b, H2 b = none → H b = none
theorem Gs.same {C : Addr} {B : Addr → Prop} {H : Hp} {p d o q : Addr} {gs : List (Int × Int)} {T : List (Int × Int)} {us ts : List Addr} {rs : List (List Int)} {H2 H3 : Hp} (h : Gs C B H p d o q gs T us ts rs H2) (s : Same H2 H3) : Gs C B H p d o q gs T us ts rs H3 :=
  ⟨h.g.same s, h.i.same s, h.k.trans (.of s), fun b e => h.v b (s.free e)⟩
theorem upd_live {H : Hp} {a : Addr} {v : HO} {H0 : Hp} (h : ∀ b, H b = none → H0 b = none) : ∀ b, upd H a v b = none → H0 b = none := fun b e => by
  by_cases z : b = a
  · rw [z, upd_same] at e
    cases e
  · rw [upd_ne z] at e
    exact h b e
/-- one of the Inn's own cells is changed -/
theorem Gs.own {C : Addr} {B : Addr → Prop} {H : Hp} {p d o q : Addr} {gs gs' : List (Int × Int)} {T : List (Int × Int)} {us ts ts' : List Addr} {rs rs' : List (List Int)} {H2 : Hp} {r : Addr} {v : HO} (h : Gs C B H p d o q gs T us ts rs H2) (br : Apart B H q us r) (i : InnAt C (upd H2 r v) (Apart B H q us) p d o ts' gs' rs') : Gs C B H p d o q gs' T us ts' rs' (upd H2 r v) := by
  refine ⟨((h.g.reB (B' := fun b => H b = none ∧ b ≠ r) fun b m hb => ⟨hb, fun z => ?_⟩).keep (Kp.mut Kp.refl fun z => z.2 rfl)).weaken fun b z => z.1, i, ?_, upd_live h.v⟩
  · rcases m with m | m
    · exact br.2.1 (z.symm.trans m)
    · exact br.2.2 (z ▸ m)
  · rcases br.1 with z | z
    · exact h.k.mut fun y => y z
    · exact h.k.mutF z
/-- a room loses one of its guests -/
theorem Gs.lose {C : Addr} {B : Addr → Prop} {H : Hp} {p d o q : Addr} {gs : List (Int × Int)} {T : List (Int × Int)} {us ts : List Addr} {rs : List (List Int)} {H2 : Hp} (h : Gs C B H p d o q gs T us ts rs H2) {m : Nat} {r : Addr} {S : List Int} (er : ts[m]? = some r) :
    Gs C B H p d o q gs T us ts (rs.set m S) (upd H2 r (.lst (S.map V.int))) :=
  h.own (h.i.rm.b r (List.mem_of_getElem? er)) (h.i.rooms (Kp.mut Kp.refl fun z => z.2 (List.mem_of_getElem? er)) (h.i.rm.set er S))
def GoW (C : Addr) (B : Addr → Prop) (H : Hp) (p d o q : Addr) (gs : List (Int × Int)) (a : Int) (len : Nat) (TT : List (Int × Int)) (m : Nat) (σ : L2.St) (H2 : Hp) : Prop :=
  ∃ (T : List (Int × Int)) (us ts : List Addr) (rs : List (List Int)) (n k : Nat) (y5 : Option V), σ = [some (.ref p), some (.int a), some (.int n), some (.ref q), some (oV (backE gs rs n)), y5] ∧ Gs C B H p d o q gs T us ts rs H2 ∧ Hole gs rs n ∧ rs.length = len ∧ m + n = len ∧ len ≤ k + n ∧ TT = T ++ goF k gs rs n ∧ T.length ≤ n
theorem ok_Inn_go {C : Addr} (A : Ma K C "go" "Inn.go" P_Inn_go s_Inn_go) (B : Bi mg) (T : InnT K mg C) (M_where : Mf P w K mg base 2 C "where" "Inn.where" P_Inn_where s_Inn_where (sp_Inn_where C)) (M__eldest_back : Mf P w K mg base 2 C "_eldest_back" "Inn._eldest_back" P_Inn__eldest_back s_Inn__eldest_back (sp_Inn__eldest_back C))
    (M__enter : Mf P w K mg base 1 C "_enter" "Inn._enter" P_Inn__enter s_Inn__enter (sp_Inn__enter C)) : Mf P w K mg base 3 C "go" "Inn.go" P_Inn_go s_Inn_go (sp_Inn_go C) := by
  refine A.mf fun f fd F => F.ok sc_Inn_go (fun vs H Q E h => ?_) (fun cdv AA outer s H vs Q E hr h => ?_)
  · obtain ⟨_, _, _, _, _, _, _, rfl, _⟩ := h
    rfl
  · obtain ⟨BB, p, d, o, ts, gs, a, rfl, hI, hF, ha, hl, q1⟩ := h
    have nd := sc_Inn_go.nd
    refine ⟨_, (pss_cons (ps_set (i := 2) nd rfl (.inl rfl) (pe_mf M_where T.cl (hr.mono (by decide)) (pv 0) (pa_cons (pv 1) pa_nil)))
    (pss_cons (ps_ddel (pe_fld (pv 0) rfl) (pv 1))
    (pss_cons (ps_expr (pe_bm PySem.F.plainAttrs_list PySem.F.slot_list_remove PySem.F.type_list_remove mt_remove (pe_ix ix_list (pe_fld (pv 0) rfl) (pv 2) (fun _ _ => rfl)) (pa_cons (pv 1) pa_nil)))
    (pss_cons (ps_set (i := 3) nd rfl (.inl rfl) (pe_lst pa_nil))
    (pss_cons (ps_set (i := 4) nd rfl (.inl rfl) (pe_mf M__eldest_back T.cl (hr.mono (by decide)) (pv 0) (pa_cons (pv 2) pa_nil)))
    (pss_cons (ps_while PassesOwn.never (pt_cmpR op_notN (pv 4) pe_non (nomark _)) (pss_cons (ps_set (i := 5) nd rfl (.inl rfl) (pe_mf M_where T.cl (hr.mono (by decide)) (pv 0) (pa_cons (pv 4) pa_nil))) (pss_cons (ps_expr (pe_bm PySem.F.plainAttrs_list PySem.F.slot_list_remove PySem.F.type_list_remove mt_remove (pe_ix ix_list (pe_fld (pv 0) rfl) (pv 5) (fun _ _ => rfl)) (pa_cons (pv 4) pa_nil))) (pss_cons (ps_expr (pe_mf M__enter T.cl (hr.mono (by decide)) (pv 0) (pa_cons (pv 4) (pa_cons (pv 2) pa_nil)))) (pss_cons (ps_expr (pe_bm PySem.F.plainAttrs_list PySem.F.slot_list_append PySem.F.type_list_append mt_append (pv 3) (pa_cons (pe_tup (pa_cons (pv 4) (pa_cons (pv 2) pa_nil))) pa_nil))) (pss_cons (ps_set (i := 2) nd rfl (.inl rfl) (pv 5)) (pss_one (ps_set (i := 4) nd rfl (.inl rfl) (pe_mf M__eldest_back T.cl (hr.mono (by decide)) (pv 0) (pa_cons (pv 2) pa_nil))))))))))
    (pss_cons (ps_if (pt_not (pt_truth (pe_ix ix_list (pe_fld (pv 0) rfl) (pv 2) (fun _ _ => rfl)) (by intro _; rfl))) (pss_one (ps_expr (pe_bm0 PySem.F.plainAttrs_list PySem.F.slot_list_pop PySem.F.type_list_pop mt_pop (pe_fld (pv 0) rfl)))) pss_nil)
    (pss_one (ps_ret (pv 3)))))))))), ?_⟩
    obtain ⟨dx, hp⟩ := hI.ob
    obtain ⟨x, hx, rfl⟩ := List.mem_map.mp ha
    obtain ⟨n, R, eR, xR, ndR, only, hH⟩ := Hole.start hF hx
    have lset : (settle gs).length ≤ gs.length := by
      have := settleL_len (byAge gs)
      rw [byAge_length] at this
      exact this
    have hn : n < (settle gs).length := at_lt eR
    have hw : whereI (settle gs) x.1 = n := whereI_is eR xR only
    have egT : goT gs x.1 = goF (settle gs).length (butA gs x.1) ((settle gs).set n (R.erase x.1)) n := by
      unfold goT
      rw [hw, List.getD_eq_getElem?_getD, eR]
      rfl
    have F2 : Fit (butA gs x.1) := hF.without x.1
    have l2 : (butA gs x.1).length ≤ gs.length := List.length_filter_le _ _
    -- number = self.where(age)
    refine ⟨.ref p, rfl, p, dx, _, rfl, hp, iflds_no _ _ (by decide +kernel) (by decide +kernel), _, rfl, BB, p, d, o, ts, gs, settle gs, x.1, n, R, rfl, hI, hF.nd, ha, by omega, eR, xR, only, fun H1 s1 => ?_⟩
    dsimp only [gName]
    have I1 := hI.same s1
    obtain ⟨dx1, hp1⟩ := I1.ob
    -- del self._patience_of[age]
    refine ⟨_, rfl, p, C, dx1, _, _, rfl, hp1, T.cl, T.nP, iflds_p _ _, _, rfl, d, _, Sum.inl x.1, rfl, I1.dc, rfl, (by rw [pks_is hF.nd ha]; rfl), ?_⟩
    rw [pks_drop]
    have I2 : InnAt C (upd H1 d (.dK (pks (butA gs x.1)))) BB p d o ts (butA gs x.1) (settle gs) := by
      refine ⟨⟨dx1, by rw [upd_ne I1.pd]; exact hp1⟩, upd_same, ?_, I1.bp, I1.bd⟩
      exact I1.rm.newTop (fun b u m e => by
        have : b ≠ d := by
          rcases m with rfl | m
          · exact I1.od
          · exact (I1.room m).2
        rw [upd_ne this]
        exact e) fun b m => by
          rcases m with rfl | m
          · exact I1.rm.bo
          · exact I1.rm.b b m
    have k2 : Kp (fun b => ¬ BB b) H (upd H1 d (.dK (pks (butA gs x.1)))) := Kp.mut (Kp.of s1) fun z => z I1.bd
    have v2 : ∀ b, upd H1 d (.dK (pks (butA gs x.1))) b = none → H b = none := upd_live fun b e => s1.free e
    revert I2 k2 v2
    generalize upd H1 d (.dK (pks (butA gs x.1))) = H2
    intro I2 k2 v2
    -- self._rooms[number].remove(age)
    obtain ⟨dx2, hp2⟩ := I2.ob
    obtain ⟨r2, er2, eh2⟩ := I2.rm.of eR
    have at2 : (ts.map V.ref)[n]? = some (.ref r2) := by
      rw [List.getElem?_map, er2]
      rfl
    obtain ⟨j, ej⟩ := List.mem_iff_getElem?.mp xR
    refine ⟨_, rfl, p, C, dx2, _, _, rfl, hp2, T.cl, T.nR, iflds_r _ _, _, rfl, o, _, _, .ref r2, rfl, rfl, SqL.of I2.rm.top, atI_nat (j := n) at2, .inl ⟨rfl, _, SqL.of eh2⟩, .int x.1, rfl, r2, R, x.1, j, rfl, rfl, eh2, ej, fun l hl el => absurd (nd_ix ndR el ej) (by omega), ?_⟩
    rw [← erase_at ndR ej]
    have I3 : InnAt C (upd H2 r2 (.lst ((R.erase x.1).map V.int))) BB p d o ts (butA gs x.1) ((settle gs).set n (R.erase x.1)) := I2.rooms (Kp.mut Kp.refl fun z => z.2 (List.mem_of_getElem? er2)) (I2.rm.set er2 (R.erase x.1))
    have k3 : Kp (fun b => ¬ BB b) H (upd H2 r2 (.lst ((R.erase x.1).map V.int))) := k2.mut fun z => z (I2.rm.b r2 (List.mem_of_getElem? er2))
    have v3 : ∀ b, upd H2 r2 (.lst ((R.erase x.1).map V.int)) b = none → H b = none := upd_live v2
    revert I3 k3 v3
    generalize upd H2 r2 (.lst ((R.erase x.1).map V.int)) = H3
    intro I3 k3 v3
    -- told = []
    refine ⟨Nat.zero_le _, fun q nq => ?_⟩
    have G4 : Gs C BB H p d o q (butA gs x.1) [] [] ts ((settle gs).set n (R.erase x.1)) (upd H3 q (.lst [])) := ⟨⟨upd_same, v3 q nq, rfl, fun i t g e _ => by simp at e, fun t m => by simp at m⟩, (I3.reB (B' := Apart BB H q []) fun b z hb => ⟨.inl hb, (fun e => by
      obtain ⟨v, ev⟩ := z
      rw [e, nq] at ev
      cases ev), by simp⟩).same (same_new nq), k3.new nq, fun b e => v3 b ((same_new nq).free e)⟩
    revert G4
    generalize upd H3 q (.lst []) = H4
    intro G4
    -- what a room that somebody has left tells
    have lens : ∀ {rs : List (List Int)} {m : Nat}, Hole (butA gs x.1) rs m → rs.flatten.length ≤ 1000 := fun hh => by
      obtain ⟨h1, h2, _⟩ := hh.step F2
      have := List.Nodup.length_le_of_subset h1 h2
      rw [List.length_map] at this
      omega
    -- mover = self._eldest_back(number)
    obtain ⟨dx4, hp4⟩ := G4.i.ob
    refine ⟨_, rfl, p, dx4, _, rfl, hp4, iflds_no _ _ (by decide +kernel) (by decide +kernel), _, rfl, _, p, d, o, ts, butA gs x.1, _, n, R.erase x.1, rfl, G4.i, F2.nd, (hH.step F2).2.1, by rw [List.length_set]; omega, lens hH, by rw [List.getElem?_set_self hn], fun H5 s5 => ?_⟩
    have G5 := G4.same s5
    dsimp only [gName]
    refine seq_to (fun σ H6 => ∃ us ts' rs n y5, σ = [some (.ref p), some (.int x.1), some (.int (n : Nat)), some (.ref q), some .non, y5] ∧ Gs C BB H p d o q (butA gs x.1) (goT gs x.1) us ts' rs H6 ∧ Hole (butA gs x.1) rs n ∧ backE (butA gs x.1) rs n = none) (fun X hX => ?_) (fun σ H6 hE => ?_)
    · refine while_to (GoW C BB H p d o q (butA gs x.1) x.1 (settle gs).length (goT gs x.1)) (fun σ H6 => ∃ us ts' rs n y5, σ = [some (.ref p), some (.int x.1), some (.int (n : Nat)), some (.ref q), some .non, y5] ∧ Gs C BB H p d o q (butA gs x.1) (goT gs x.1) us ts' rs H6 ∧ Hole (butA gs x.1) rs n ∧ backE (butA gs x.1) rs n = none)
        ⟨(settle gs).length - n, [], [], ts, _, n, (settle gs).length, none, rfl, G5, hH, List.length_set .., by omega, by omega, egT, Nat.zero_le _⟩ hX (fun X hX m σ H6 hW => ?_)
      obtain ⟨TT, us, ts', rs, n', k, y5, rfl, G6, hh, hrl, hmn, hk, hT, hTl⟩ := hW
      obtain ⟨h1, h2, R', eR', out⟩ := hh.step F2
      rcases out with ⟨hno, _, _⟩ | ⟨y, m', S, hy1, hy2, hy3, hnm, eS, yS, onlyS, hh2⟩
      · have eb := backE_none eR' hno
        rw [eb]
        refine ⟨_, rfl, rfl, _, rfl, ifNo (by show (!decide (V.non = V.non)) = false; simp) ?_⟩
        refine hX _ _ ⟨us, ts', rs, n', y5, rfl, ?_, hh, eb⟩
        have e0 : goF k (butA gs x.1) rs n' = [] := by
          cases k with
          | zero => rfl
          | succ k =>
            rw [goF, eb]
        rw [e0, List.append_nil] at hT
        rw [hT]
        exact G6
      · have eb := backE_some eR' hy1 hy2 hy3
        rw [eb]
        refine ⟨_, rfl, rfl, _, rfl, ifYes (by show (!decide (V.int y = V.non)) = true; simp) ?_⟩
        refine ⟨fun σ' H' => ∃ m', m' < m ∧ GoW C BB H p d o q (butA gs x.1) x.1 (settle gs).length (goT gs x.1) m' σ' H', fun σ' H' h => h, ?_⟩
        have hm' : m' < rs.length := at_lt eS
        have yin : y ∈ (butA gs x.1).map (·.1) := h2 y (List.mem_flatten.mpr ⟨S, List.mem_of_getElem? eS, yS⟩)
        have ndS : S.Nodup := by
          obtain ⟨A1, A2, e⟩ := List.append_of_mem (List.mem_of_getElem? eS)
          rw [e, List.flatten_append, List.flatten_cons] at h1
          exact (List.nodup_append.mp (List.nodup_append.mp h1).2.1).1
        -- left = self.where(mover)
        obtain ⟨dx6, hp6⟩ := G6.i.ob
        refine ⟨_, rfl, p, dx6, _, rfl, hp6, iflds_no _ _ (by decide +kernel) (by decide +kernel), _, rfl, _, p, d, o, ts', _, rs, y, m', S, rfl, G6.i, F2.nd, yin, by omega, eS, yS, onlyS, fun H7 s7 => ?_⟩
        dsimp only [gName]
        have G7 := G6.same s7
        -- self._rooms[left].remove(mover)
        obtain ⟨dx7, hp7⟩ := G7.i.ob
        obtain ⟨r7, er7, eh7⟩ := G7.i.rm.of eS
        have at7 : (ts'.map V.ref)[m']? = some (.ref r7) := by
          rw [List.getElem?_map, er7]
          rfl
        obtain ⟨j7, ej7⟩ := List.mem_iff_getElem?.mp yS
        refine ⟨_, rfl, p, C, dx7, _, _, rfl, hp7, T.cl, T.nR, iflds_r _ _, _, rfl, o, _, _, .ref r7, rfl, rfl, SqL.of G7.i.rm.top, atI_nat (j := m') at7, .inl ⟨rfl, _, SqL.of eh7⟩, .int y, rfl, r7, S, y, j7, rfl, rfl, eh7, ej7, fun l hl el => absurd (nd_ix ndS el ej7) (by omega), ?_⟩
        rw [← erase_at ndS ej7]
        have G8 := G7.lose (S := S.erase y) er7
        revert G8
        generalize upd H7 r7 (.lst ((S.erase y).map V.int)) = H8
        intro G8
        -- self._enter(mover, number)
        obtain ⟨dx8, hp8⟩ := G8.i.ob
        have lrs : (rs.set m' (S.erase y)).length ≤ 1000 := by
          rw [List.length_set]
          omega
        have lrm : ∀ r ∈ rs.set m' (S.erase y), r.length ≤ 1000 := fun r mr => by
          have hf := lens hh
          rcases List.mem_or_eq_of_mem_set mr with mr | rfl
          · exact Nat.le_trans (room_le_flat _ _ mr) hf
          · exact Nat.le_trans (List.length_erase_le ..) (Nat.le_trans (room_le_flat _ _ (List.mem_of_getElem? eS)) hf)
        have hn' : n' < rs.length := at_lt eR'
        refine ⟨_, rfl, p, dx8, _, rfl, hp8, iflds_no _ _ (by decide +kernel) (by decide +kernel), _, rfl, _, rfl, _, p, d, o, ts', _, _, y, n', rfl, G8.i, (by rw [List.length_set]; omega), lrs, lrm, fun H9 ts9 R9 k9 => ?_⟩
        have er9 : (rs.set m' (S.erase y))[n']? = some R' := by
          rw [List.getElem?_set_ne (by omega)]
          exact eR'
        rw [enterR_old y er9] at R9
        have gone8 : ∀ b, H8 b = none → Apart BB H q us b := fun b e => by
          refine ⟨?_, fun z => ?_, fun z => ?_⟩
          · by_cases hb : BB b
            · exact .inl hb
            · exact .inr (G8.k.none hb e)
          · obtain ⟨v, ev⟩ := G8.g.there b (.inl z)
            rw [e] at ev
            cases ev
          · obtain ⟨v, ev⟩ := G8.g.there b (.inr z)
            rw [e] at ev
            cases ev
        have bo8 := G8.i.rm.bo
        have G9 : Gs C BB H p d o q (butA gs x.1) TT us ts9 ((rs.set m' (S.erase y)).set n' (down (R' ++ [y]))) H9 := by
          refine ⟨((G8.g.reB (B' := fun b => H b = none ∧ b ≠ o) fun b m hb => ⟨hb, fun z => ?_⟩).keep (k9.weak fun b z => z.2)).weaken fun b z => z.1, ⟨⟨dx8, k9 _ _ G8.i.po hp8⟩, k9 _ _ G8.i.od.symm G8.i.dc, R9.weaken fun b z => z.elim id (gone8 b), G8.i.bp, G8.i.bd⟩, fun b u hb e => k9 b u (fun z => (z ▸ bo8).1.elim (fun y => hb y) (fun y => by rw [y] at e; cases e)) (G8.k b u hb e), fun b e => G8.v b (k9.none (fun z => by
            rw [z, R9.top] at e
            cases e) e)⟩
          rcases m with m | m
          · exact bo8.2.1 (z.symm.trans m)
          · exact bo8.2.2 (z ▸ m)
        -- told.append((mover, number))
        refine ⟨.ref q, rfl, .inl ⟨rfl, _, G9.g.seq⟩, .int y, rfl, .int n', rfl, (by show 2 ≤ sizeLine; decide), fun t nt => ?_⟩
        have G10 := G9.same (same_new (o := .tup [.int y, .int n']) nt)
        have et : upd H9 t (.tup [.int y, .int n']) t = some (.tup [.int ((y, (n' : Int)) : Int × Int).1, .int ((y, (n' : Int)) : Int × Int).2]) := upd_same
        have htn : H t = none := G9.v t nt
        refine ⟨q, _, _, rfl, rfl, G10.g.top, ils (by rw [List.length_map, G10.g.len]; omega), ?_⟩
        have G11 : Gs C BB H p d o q (butA gs x.1) (TT ++ [(y, (n' : Int))]) (us ++ [t]) ts9 ((rs.set m' (S.erase y)).set n' (down (R' ++ [y]))) (upd (upd H9 t (.tup [.int y, .int n'])) q (.lst (us.map V.ref ++ [.ref t]))) := by
          refine ⟨G10.g.push G10.g.offTs (g := (y, (n' : Int))) et htn, ((G9.i.reB (B' := Apart BB H q (us ++ [t])) fun b z hb => ⟨hb.1, hb.2.1, fun m => (List.mem_append.mp m).elim hb.2.2 fun m => ?_⟩).same (same_new nt)).keep (Kp.mut Kp.refl fun z => z.2.1 rfl), (G9.k.new nt).mutF G9.g.ba, upd_live G10.v⟩
          obtain ⟨v, ev⟩ := z
          rw [List.mem_singleton.mp m, nt] at ev
          cases ev
        revert G11
        generalize upd (upd H9 t (.tup [.int y, .int n'])) q (.lst (us.map V.ref ++ [.ref t])) = H11
        intro G11
        -- number = left
        refine ⟨_, rfl, ?_⟩
        dsimp only [gName]
        -- mover = self._eldest_back(number)
        obtain ⟨dx11, hp11⟩ := G11.i.ob
        have eL : ((rs.set m' (S.erase y)).set n' (down (R' ++ [y])))[m']? = some (S.erase y) := by
          rw [List.getElem?_set_ne (by omega), List.getElem?_set_self hm']
        have hlen2 : ((rs.set m' (S.erase y)).set n' (down (R' ++ [y]))).length = (settle gs).length := by
          rw [List.length_set, List.length_set, hrl]
        refine ⟨_, rfl, p, dx11, _, rfl, hp11, iflds_no _ _ (by decide +kernel) (by decide +kernel), _, rfl, _, p, d, o, ts9, butA gs x.1, _, m', S.erase y, rfl, G11.i, F2.nd, (hh2.step F2).2.1, by omega, lens hh2, eL, fun H12 s12 => ?_⟩
        dsimp only [gName]
        obtain ⟨k', rfl⟩ : ∃ k', k = k' + 1 := ⟨k - 1, by omega⟩
        have eg : goF (k' + 1) (butA gs x.1) rs n' = (y, (n' : Int)) :: goF k' (butA gs x.1) ((rs.set m' (S.erase y)).set n' (down (R' ++ [y]))) m' := by
          rw [goF, eb]
          show (y, (n' : Int)) :: goF k' _ (moveR rs (whereI rs y) n' y) (whereI rs y) = _
          rw [whereI_is eS yS onlyS]
          unfold moveR
          rw [List.getD_eq_getElem?_getD, eS, List.getD_eq_getElem?_getD, eR']
          rfl
        refine ⟨m - (m' - n'), by omega, TT ++ [(y, (n' : Int))], us ++ [t], ts9, _, m', k', some (.int m'), rfl, G11.same s12, hh2, hlen2, by omega, by omega, ?_, ?_⟩
        · rw [hT, eg, List.append_assoc]
          rfl
        · rw [List.length_append]
          exact Nat.le_trans (Nat.succ_le_succ hTl) hnm
    · obtain ⟨us, ts', rs, n', y5, rfl, G6, hh, eb⟩ := hE
      obtain ⟨h1, h2, R', eR', out⟩ := hh.step F2
      rcases out with ⟨_, hne, hem⟩ | ⟨y, m', S, hy1, hy2, hy3, _⟩
      · obtain ⟨dx6, hp6⟩ := G6.i.ob
        obtain ⟨r6, er6, eh6⟩ := G6.i.rm.of eR'
        have at6 : (ts'.map V.ref)[n']? = some (.ref r6) := by
          rw [List.getElem?_map, er6]
          rfl
        refine ⟨_, rfl, p, C, dx6, _, _, rfl, hp6, T.cl, T.nR, iflds_r _ _, _, rfl, o, _, _, .ref r6, rfl, rfl, SqL.of G6.i.rm.top, atI_nat (j := n') at6, _, .inl ⟨_, SqL.of eh6, rfl⟩, ?_⟩
        by_cases hR : R' = []
        · have eset := hem hR
          subst hR
          refine ifYes rfl ?_
          subst eset
          obtain ⟨tsP, eP, RP⟩ := G6.i.rm.popL
          have hlt : 0 < ts'.length := by
            rw [G6.i.rm.len, List.length_append]
            exact Nat.succ_pos _
          obtain ⟨z, ez⟩ := at_some (l := ts'.map V.ref) (i := (ts'.map V.ref).length - 1) (by rw [List.length_map]; omega)
          refine ⟨_, rfl, p, C, dx6, _, _, rfl, hp6, T.cl, T.nR, iflds_r _ _, .inl ⟨rfl, _, SqL.of G6.i.rm.top⟩, o, _, z, rfl, rfl, G6.i.rm.top, ez, ?_⟩
          rw [eP]
          have G7 := G6.own (ts' := tsP) (rs' := settle (butA gs x.1)) (v := .lst (tsP.map V.ref)) G6.i.rm.bo (G6.i.rooms (Kp.mut Kp.refl fun z => z.1 rfl) RP)
          exact ⟨_, rfl, q1 _ _ _ _ G7.i G7.g G7.k G7.v⟩
        · have eset := hne hR
          subst eset
          refine ifNo ?_ ?_
          · cases R' with
            | nil => exact absurd rfl hR
            | cons a b => rfl
          · exact ⟨_, rfl, q1 _ _ _ _ G6.i G6.g G6.k G6.v⟩
      · rw [backE_some eR' hy1 hy2 hy3] at eb
        cases eb
end
end El
namespace El
open PySem PySem.Spec PyProof.Rows L2
theorem comeF_len : ∀ (n : Nat) (gs : List (Int × Int)) (rs : List (List Int)) (i : Nat) (x : Int), (comeF n gs rs i x).1.length ≤ n
  | 0, _, _, _, _ => Nat.le_refl _
  | n + 1, gs, rs, i, x => by
    rw [comeF]
    split
    · show 1 ≤ n + 1
      omega
    · exact Nat.succ_le_succ (comeF_len n _ _ _ _)
theorem comeT_len (gs : List (Int × Int)) (x : Int × Int) : (comeT gs x).length ≤ gs.length + 1 := by
  refine Nat.le_trans (comeF_len _ _ _ _ _) ?_
  have := settleL_len (byAge (gs ++ [x]))
  rw [byAge_length, List.length_append] at this
  exact this
theorem gs_items {H H' : Hp} {p : Addr} {ts : List Addr} {gs : List (Int × Int)} (e : H' p = some (.lst (ts.map V.ref))) (np : H p = none) (nt : ∀ t ∈ ts, H t = none)
    (h : Paired (fun (t : Addr) (q : L2.Key × V) => H' t = some (.tup [kV q.1, q.2])) ts (pks gs)) : GsAt H' (fun b => H b = none) p ts gs := by
  refine ⟨e, np, by rw [h.length, pks_len], fun i t g e1 e2 => ?_, nt⟩
  obtain ⟨y, e3, r⟩ := LiI.paired_get h e1
  rw [show pks gs = gs.map fun g => ((Sum.inl g.1 : L2.Key), V.int g.2) from rfl, List.getElem?_map, e2] at e3
  obtain rfl := Option.some.inj e3
  exact r
end El
namespace El
open PySem PySem.Spec PyProof.Rows L2
/-! ### one Inn, and what is set apart from it -/
structure One (C : Addr) (H5 : Hp) (t g x d o : Addr) (n : Nat) (Z BB : Addr → Prop) (ts : List Addr) (gi : List (Int × Int)) (H8 : Hp) : Prop where
  i : InnAt C H8 BB x d o ts gi (settle gi)
  bz : ∀ b, BB b → ¬ Z b
  b5 : ∀ b, BB b → H5 b = none
  zl : ∀ b, Z b → ∃ v, H8 b = some v
  z5 : ∀ b, Z b → H5 b = none
  k : Kp (Off t g) H5 H8
  v : ∀ b, H8 b = none → H5 b = none
  deck : Deck H8 t g n
  off : ∀ b, H5 b = none → Off t g b
theorem dead_live {H : Hp} {b : Addr} (e : H b = none) (z : ∃ v, H b = some v) : False := by
  obtain ⟨v, ev⟩ := z
  rw [e] at ev
  cases ev
section
variable {C : Addr} {H5 H8 H9 : Hp} {t g x d o : Addr} {n m : Nat} {Z BB : Addr → Prop} {ts : List Addr} {gi : List (Int × Int)}
theorem One.more (h : One C H5 t g x d o n Z BB ts gi H8) (k : n ≤ m) : One C H5 t g x d o m Z BB ts gi H8 := { h with deck := h.deck.more k }
theorem One.free (h : One C H5 t g x d o n Z BB ts gi H8) : One C H5 t g x d o n (fun _ => False) BB ts gi H8 := ⟨h.i, fun _ _ z => z, h.b5, fun _ z => z.elim, fun _ z => z.elim, h.k, h.v, h.deck, h.off⟩
theorem One.same (h : One C H5 t g x d o n Z BB ts gi H8) (s : Same H8 H9) : One C H5 t g x d o n Z BB ts gi H9 :=
  { h with i := h.i.same s, zl := fun b z => let ⟨v, e⟩ := h.zl b z; ⟨v, s _ _ e⟩, k := h.k.trans (.of s), v := fun b e => h.v b (s.free e), deck := h.deck.same s }
theorem One.draw (h : One C H5 t g x d o n Z BB ts gi H8) (k : Kp (Off t g) H8 H9) (D : Deck H9 t g m) : One C H5 t g x d o m Z BB ts gi H9 ∧ Kp Z H8 H9 :=
  have kz : Kp Z H8 H9 := k.weak fun b z => h.off _ (h.z5 b z)
  ⟨{ h with i := h.i.keep (k.weak fun b hb => h.off b (h.b5 b hb)), zl := fun b z => let ⟨v, e⟩ := h.zl b z; ⟨v, kz _ _ z e⟩, k := h.k.trans k, v := fun b e => h.v b (k.none (D.off e) e), deck := D }, kz⟩
theorem One.mut {p : Addr} {v : HO} (h : One C H5 t g x d o n Z BB ts gi H8) (p1 : ¬ BB p) (p4 : H5 p = none) : One C H5 t g x d o n Z BB ts gi (upd H8 p v) :=
  ⟨h.i.keep (Kp.mut Kp.refl p1), h.bz, h.b5, fun b z => by
    by_cases e : b = p
    · exact ⟨v, by rw [e, upd_same]⟩
    · rw [upd_ne e]
      exact h.zl b z, h.z5, h.k.mutF p4, fun b e => by
    by_cases z : b = p
    · rw [z, upd_same] at e
      cases e
    · rw [upd_ne z] at e
      exact h.v b e, h.deck.mut (h.off p p4), h.off⟩
/-- something else is set apart, all of it new -/
theorem One.mark {Z' : Addr → Prop} (h : One C H5 t g x d o n Z BB ts gi H8) (s : Same H8 H9) (nz : ∀ b, Z' b → H8 b = none) (zl : ∀ b, Z' b → ∃ v, H9 b = some v) : One C H5 t g x d o n Z' (fun b => BB b ∧ ∃ v, H8 b = some v) ts gi H9 := by
  have hs := h.same s
  exact ⟨(h.i.reB (B' := fun b => BB b ∧ ∃ v, H8 b = some v) fun b z hb => ⟨hb, z⟩).same s, fun b hb z => dead_live (nz b z) hb.2, fun b hb => h.b5 b hb.1, zl, fun b z => h.v b (nz b z), hs.k, hs.v, hs.deck, h.off⟩
theorem One.inn {q : Addr} {us ts' : List Addr} {gi' T : List (Int × Int)} (h : One C H5 t g x d o n Z BB ts gi H8) (I : InnAt C H9 (Apart BB H8 q us) x d o ts' gi' (settle gi')) (G : GsAt H9 (fun b => H8 b = none) q us T) (kc : Kp (fun b => ¬ BB b) H8 H9) (vc : ∀ b, H9 b = none → H8 b = none) :
    One C H5 t g x d o n Z (Apart BB H8 q us) ts' gi' H9 ∧ Kp Z H8 H9 ∧ GsAt H9 (fun b => ¬ Apart BB H8 q us b ∧ ¬ Z b ∧ H5 b = none) q us T := by
  have kz : Kp Z H8 H9 := kc.weak fun b z y => h.bz b y z
  refine ⟨⟨I, fun b hb => ?_, fun b hb => hb.1.elim (h.b5 b) (h.v b), fun b z => let ⟨v, e⟩ := h.zl b z; ⟨v, kz _ _ z e⟩, h.z5, fun b u hb e => kc b u (fun y => ?_) (h.k b u hb e), fun b e => h.v b (vc b e), h.deck.keep kc (fun y => (h.off t (h.b5 t y)).1 rfl) (fun y => (h.off g (h.b5 g y)).2 rfl), h.off⟩, kz, ?_⟩
  · rcases hb.1 with y | e
    · exact h.bz b y
    · exact fun z => dead_live e (h.zl b z)
  · rw [h.b5 b y] at e
    cases e
  · exact G.reB fun b m e => ⟨fun z => m.elim z.2.1 z.2.2, fun z => dead_live e (h.zl b z), h.v b e⟩
end
/-- the guests and the rooms in a tuple -/
structure Thr (H : Hp) (Z : Addr → Prop) (th : Addr) (gs : List (Int × Int)) (rs : List (List Int)) : Prop where
  ex : ∃ (p1 p2 : Addr) (us1 us2 : List Addr), H th = some (.tup [.ref p1, .ref p2]) ∧ GsAt H Z p1 us1 gs ∧ RmsAt H Z p2 us2 rs
  z : Z th
theorem Thr.keep {H H' : Hp} {Z : Addr → Prop} {th : Addr} {gs : List (Int × Int)} {rs : List (List Int)} (h : Thr H Z th gs rs) (k : Kp Z H H') : Thr H' Z th gs rs :=
  let ⟨p1, p2, us1, us2, e, G, R⟩ := h.ex
  ⟨⟨p1, p2, us1, us2, k _ _ h.z e, G.keep k, R.keep k⟩, h.z⟩
def dThr (gs : List (Int × Int)) (rs : List (List Int)) : PyData := .tuple [dGs gs, dRows rs]
theorem Oks.thr (gs : List (Int × Int)) (rs : List (List Int)) : Oks 3 (dThr gs rs) := .tup fun x m => by
  rcases List.mem_cons.mp m with rfl | m
  · exact .gs gs
  · rw [List.mem_singleton.mp m]
    exact .rows rs
theorem Thr.dp {K : PySem.W.Frag} {H : Hp} {Z : Addr → Prop} {th : Addr} {gs : List (Int × Int)} {rs : List (List Int)} (h : Thr H Z th gs rs) : Dp K H (.ref th) (dThr gs rs) :=
  let ⟨_, _, _, _, e, G, R⟩ := h.ex
  .tup (SqT.of e) (.cons G.dp (.cons R.dp .nil))
end El
namespace El
open PySem PySem.Spec PyProof.Rows L2
/-! ### an Inn and, apart from it, the law's own rooms and dict -/
structure Two (C : Addr) (H5 : Hp) (t g x d o so sd : Addr) (n : Nat) (Z BB BS : Addr → Prop) (ts sts : List Addr) (gi gf : List (Int × Int)) (S : List (List Int)) (H8 : Hp) : Prop where
  i : InnAt C H8 BB x d o ts gi (settle gi)
  r : RmsAt H8 BS so sts S
  e : S.map down = settle gf
  dd : H8 sd = some (.dK (pks gf))
  bs : ∀ b, BB b → ¬ BS b ∧ b ≠ sd ∧ ¬ Z b
  b5 : ∀ b, BB b → H5 b = none
  ss : ∀ b, BS b → b ≠ sd ∧ ¬ Z b
  s5 : ∀ b, BS b → H5 b = none
  zl : ∀ b, Z b → ∃ v, H8 b = some v
  z5 : ∀ b, Z b → H5 b = none
  zs : ¬ Z sd
  d5 : H5 sd = none
  k : Kp (Off t g) H5 H8
  v : ∀ b, H8 b = none → H5 b = none
  deck : Deck H8 t g n
  off : ∀ b, H5 b = none → Off t g b
section
variable {C : Addr} {H5 H8 H9 : Hp} {t g x d o so sd : Addr} {n m : Nat} {Z BB BS : Addr → Prop} {ts sts : List Addr} {gi gf : List (Int × Int)} {S : List (List Int)}
theorem Two.more (h : Two C H5 t g x d o so sd n Z BB BS ts sts gi gf S H8) (k : n ≤ m) : Two C H5 t g x d o so sd m Z BB BS ts sts gi gf S H8 :=
  { h with deck := h.deck.more k }
theorem Two.same (h : Two C H5 t g x d o so sd n Z BB BS ts sts gi gf S H8) (s : Same H8 H9) : Two C H5 t g x d o so sd n Z BB BS ts sts gi gf S H9 :=
  { h with i := h.i.same s, r := h.r.same s, dd := s _ _ h.dd, zl := fun b z => let ⟨v, e⟩ := h.zl b z; ⟨v, s _ _ e⟩, k := h.k.trans (.of s), v := fun b e => h.v b (s.free e), deck := h.deck.same s }
theorem Two.draw (h : Two C H5 t g x d o so sd n Z BB BS ts sts gi gf S H8) (k : Kp (Off t g) H8 H9) (D : Deck H9 t g m) : Two C H5 t g x d o so sd m Z BB BS ts sts gi gf S H9 :=
  { h with i := h.i.keep (k.weak fun b hb => h.off b (h.b5 b hb)), r := h.r.keep (k.weak fun b hb => h.off b (h.s5 b hb)), dd := k _ _ (h.off _ h.d5) h.dd, zl := fun b z => let ⟨v, e⟩ := h.zl b z; ⟨v, k _ _ (h.off _ (h.z5 b z)) e⟩, k := h.k.trans k, v := fun b e => h.v b (k.none (D.off e) e), deck := D }
theorem Two.mut {p : Addr} {v : HO} (h : Two C H5 t g x d o so sd n Z BB BS ts sts gi gf S H8) (p1 : ¬ BB p) (p2 : ¬ BS p) (p3 : p ≠ sd) (p4 : H5 p = none) : Two C H5 t g x d o so sd n Z BB BS ts sts gi gf S (upd H8 p v) :=
  ⟨h.i.keep (Kp.mut Kp.refl p1), h.r.keep (Kp.mut Kp.refl p2), h.e, (upd_ne p3.symm).trans h.dd, h.bs, h.b5, h.ss, h.s5, fun b z => by
    by_cases e : b = p
    · exact ⟨v, by rw [e, upd_same]⟩
    · rw [upd_ne e]
      exact h.zl b z, h.z5, h.zs, h.d5, h.k.mutF p4, fun b e => by
    by_cases z : b = p
    · rw [z, upd_same] at e
      cases e
    · rw [upd_ne z] at e
      exact h.v b e, h.deck.mut (h.off p p4), h.off⟩
/-- something more is set apart, all of it new -/
theorem Two.mark {Z' : Addr → Prop} (h : Two C H5 t g x d o so sd n (fun _ => False) BB BS ts sts gi gf S H8) (s : Same H8 H9) (nz : ∀ b, Z' b → H8 b = none) (zl : ∀ b, Z' b → ∃ v, H9 b = some v) :
    Two C H5 t g x d o so sd n Z' (fun b => BB b ∧ ∃ v, H8 b = some v) (fun b => BS b ∧ ∃ v, H8 b = some v) ts sts gi gf S H9 := by
  have dead : ∀ {b : Addr}, H8 b = none → (∃ v, H8 b = some v) → False := fun e z => by
    obtain ⟨v, ev⟩ := z
    rw [e] at ev
    cases ev
  have hs := h.same s
  exact ⟨(h.i.reB (B' := fun b => BB b ∧ ∃ v, H8 b = some v) fun b z hb => ⟨hb, z⟩).same s, (h.r.reL (B' := fun b => BS b ∧ ∃ v, H8 b = some v) fun b z hb => ⟨hb, z⟩).same s, h.e, hs.dd, fun b hb => ⟨fun z => (h.bs b hb.1).1 z.1, (h.bs b hb.1).2.1, fun z => dead (nz b z) hb.2⟩, fun b hb => h.b5 b hb.1, fun b hb => ⟨(h.ss b hb.1).1, fun z => dead (nz b z) hb.2⟩, fun b hb => h.s5 b hb.1, zl, fun b z => h.v b (nz b z), fun z => dead (nz sd z) ⟨_, h.dd⟩, h.d5, hs.k, hs.v, hs.deck, h.off⟩
/-- the law's own rooms have changed, and all that is new is new -/
theorem Two.stand {sts' : List Addr} {gf' : List (Int × Int)} {S' : List (List Int)} (h : Two C H5 t g x d o so sd n Z BB BS ts sts gi gf S H8) (R : RmsAt H9 (fun b => BS b ∨ H8 b = none) so sts' S') (e' : S'.map down = settle gf') (d' : H9 sd = some (.dK (pks gf'))) (ka : Kp (fun b => b ≠ so ∧ b ≠ sd) H8 H9) (va : ∀ b, H9 b = none → H8 b = none) :
    Two C H5 t g x d o so sd n Z (fun b => BB b ∧ ∃ v, H8 b = some v) (fun b => BS b ∨ H8 b = none) ts sts' gi gf' S' H9 ∧ Kp Z H8 H9 := by
  have so5 : H5 so = none := h.s5 so h.r.bo
  have dead : ∀ {b : Addr}, H8 b = none → (∃ v, H8 b = some v) → False := fun e z => by
    obtain ⟨v, ev⟩ := z
    rw [e] at ev
    cases ev
  have kz : Kp Z H8 H9 := ka.weak fun b z => ⟨fun y => (h.ss so h.r.bo).2 (y ▸ z), fun y => h.zs (y ▸ z)⟩
  refine ⟨⟨?_, R, e', d', fun b hb => ⟨fun z => z.elim (h.bs b hb.1).1 fun e => dead e hb.2, (h.bs b hb.1).2⟩, fun b hb => h.b5 b hb.1, fun b hb => ?_, fun b hb => hb.elim (h.s5 b) (h.v b), fun b z => let ⟨v, e⟩ := h.zl b z; ⟨v, kz _ _ z e⟩, h.z5, h.zs, h.d5, ?_, fun b e => h.v b (va b e), h.deck.keep ka ⟨fun z => (h.off so so5).1 z.symm, fun z => (h.off sd h.d5).1 z.symm⟩ ⟨fun z => (h.off so so5).2 z.symm, fun z => (h.off sd h.d5).2 z.symm⟩, h.off⟩, kz⟩
  · exact (h.i.reB (B' := fun b => BB b ∧ ∃ v, H8 b = some v) fun b z hb => ⟨hb, z⟩).keep (ka.weak fun b hb => ⟨fun z => (h.bs b hb.1).1 (z ▸ h.r.bo), (h.bs b hb.1).2.1⟩)
  · rcases hb with hb | e
    · exact h.ss b hb
    · refine ⟨fun z => ?_, fun z => dead e (h.zl b z)⟩
      rw [z, h.dd] at e
      cases e
  · refine fun b u hb e => ka b u ⟨fun z => ?_, fun z => ?_⟩ (h.k b u hb e)
    · rw [z, so5] at e
      cases e
    · rw [z, h.d5] at e
      cases e
/-- the Inn has changed and told a list -/
theorem Two.inn {q : Addr} {us ts' : List Addr} {gi' T : List (Int × Int)} (h : Two C H5 t g x d o so sd n Z BB BS ts sts gi gf S H8) (I : InnAt C H9 (Apart BB H8 q us) x d o ts' gi' (settle gi')) (G : GsAt H9 (fun b => H8 b = none) q us T) (kc : Kp (fun b => ¬ BB b) H8 H9) (vc : ∀ b, H9 b = none → H8 b = none) :
    Two C H5 t g x d o so sd n Z (Apart BB H8 q us) (fun b => BS b ∧ ∃ v, H8 b = some v) ts' sts gi' gf S H9 ∧ Kp Z H8 H9 ∧ GsAt H9 (fun b => ¬ Apart BB H8 q us b ∧ ¬ (BS b ∧ ∃ v, H8 b = some v) ∧ b ≠ sd ∧ ¬ Z b ∧ H5 b = none) q us T := by
  have dead : ∀ {b : Addr}, H8 b = none → (∃ v, H8 b = some v) → False := fun e z => by
    obtain ⟨v, ev⟩ := z
    rw [e] at ev
    cases ev
  have kz : Kp Z H8 H9 := kc.weak fun b z y => (h.bs b y).2.2 z
  have nsd : ∀ {b : Addr}, H8 b = none → b ≠ sd := fun e z => by rw [z, h.dd] at e; cases e
  refine ⟨⟨I, (h.r.reL (B' := fun b => BS b ∧ ∃ v, H8 b = some v) fun b z hb => ⟨hb, z⟩).keep (kc.weak fun b hb y => (h.bs b y).1 hb.1), h.e, kc _ _ (fun y => (h.bs sd y).2.1 rfl) h.dd, fun b hb => ?_, fun b hb => hb.1.elim (h.b5 b) (h.v b), fun b hb => h.ss b hb.1, fun b hb => h.s5 b hb.1, fun b z => let ⟨v, e⟩ := h.zl b z; ⟨v, kz _ _ z e⟩, h.z5, h.zs, h.d5, fun b u hb e => kc b u (fun y => ?_) (h.k b u hb e), fun b e => h.v b (vc b e), h.deck.keep kc (fun y => (h.off t (h.b5 t y)).1 rfl) (fun y => (h.off g (h.b5 g y)).2 rfl), h.off⟩, kz, ?_⟩
  · rcases hb.1 with y | e
    · exact ⟨fun z => (h.bs b y).1 z.1, (h.bs b y).2⟩
    · exact ⟨fun z => dead e z.2, nsd e, fun z => dead e (h.zl b z)⟩
  · rw [h.b5 b y] at e
    cases e
  · exact G.reB fun b m e => ⟨fun z => m.elim z.2.1 z.2.2, fun z => dead e z.2, nsd e, fun z => dead e (h.zl b z), h.v b e⟩
end
theorem settle_down {gs : List (Int × Int)} (F : Fit gs) : (settle gs).map down = settle gs := by
  have h : ∀ r ∈ settle gs, down r = r := fun r m => (down_is (.refl _) (settle_fine F m).1).symm
  rw [List.map_congr_left h, List.map_id']
theorem butA_map (gs : List (Int × Int)) (a : Int) : (butA gs a).map (·.1) = (gs.map (·.1)).filter fun z => decide (z ≠ a) := by
  unfold butA
  rw [List.filter_map]
  rfl
theorem butA_erase {gs : List (Int × Int)} (F : Fit gs) {L : List Int} {a : Int} {k : Nat} (p : L.Perm (gs.map (·.1))) (e : L[k]? = some a) : (L.eraseIdx k).Perm ((butA gs a).map (·.1)) := by
  have nd : L.Nodup := p.nodup_iff.mpr F.nd
  rw [← erase_at nd e, butA_map, nd.erase_eq_filter]
  refine List.Perm.trans (List.Perm.of_eq (List.filter_congr fun z _ => ?_)) (p.filter _)
  by_cases h : z = a <;> simp [h]
theorem goF_len : ∀ (k : Nat) (gs : List (Int × Int)) (rs : List (List Int)) (n : Nat), (goF k gs rs n).length ≤ k
  | 0, _, _, _ => Nat.le_refl _
  | k + 1, gs, rs, n => by
    rw [goF]
    split
    · exact Nat.zero_le _
    · exact Nat.succ_le_succ (goF_len k _ _ _)
theorem goT_len (gs : List (Int × Int)) (a : Int) : (goT gs a).length ≤ gs.length := by
  refine Nat.le_trans (goF_len _ _ _ _) ?_
  have := settleL_len (byAge gs)
  rw [byAge_length] at this
  exact this
end El
namespace El
open PySem PySem.Spec PyProof.Rows L2
section
variable {P : Program} {w : World} {K : PySem.W.Frag} {mg : Str → Option Value} {base : Heap}
abbrev s_Inn_turn : Stmt := inClass (topS 12) 3
abbrev N_Inn_turn : List Str := ["self", "age", "patience", "back"]
abbrev P_Inn_turn : List Str := ["self", "age", "patience"]
theorem sc_Inn_turn : FnScope N_Inn_turn P_Inn_turn (defScope s_Inn_turn) := ⟨rfl, rfl, rfl, by decide +kernel, rfl, by decide +kernel, by decide +kernel⟩
/-- what turn tells -/
def turnT (gs : List (Int × Int)) (x : Int × Int) : List (Int × Int) := goT gs x.1 ++ comeT (butA gs x.1) x
theorem Fit.turned {gs : List (Int × Int)} (F : Fit gs) {x : Int × Int} (h0 : 0 ≤ x.2) : Fit (butA gs x.1 ++ [x]) := by
  have F2 := F.without x.1
  refine ⟨?_, fun g m => ?_⟩
  · rw [List.map_append]
    refine List.nodup_append.mpr ⟨F2.nd, by simp, fun a ha b hb => ?_⟩
    rw [List.map_singleton, List.mem_singleton] at hb
    rw [hb]
    obtain ⟨g, hg, rfl⟩ := List.mem_map.mp ha
    exact of_decide_eq_true (List.mem_filter.mp hg).2
  · rcases List.mem_append.mp m with m | m
    · exact F2.pos g m
    · rw [List.mem_singleton.mp m]
      exact h0
theorem butA_len (gs : List (Int × Int)) (a : Int) : (butA gs a).length ≤ gs.length := List.length_filter_le _ _
def sp_Inn_turn (C : Addr) : Sp := fun vs H Q _ => ∃ (B : Addr → Prop) (p d o : Addr) (ts : List Addr) (gs : List (Int × Int)) (x : Int × Int), vs = [.ref p, .int x.1, .int x.2] ∧ InnAt C H B p d o ts gs (settle gs) ∧ Fit gs ∧ x.1 ∈ gs.map (·.1) ∧ 0 ≤ x.2 ∧ gs.length ≤ 399 ∧
  ∀ H' q us ts', InnAt C H' (Apart B H q us) p d o ts' (butA gs x.1 ++ [x]) (settle (butA gs x.1 ++ [x])) → GsAt H' (fun b => H b = none) q us (turnT gs x) → Kp (fun b => ¬ B b) H H' → (∀ b, H' b = none → H b = none) → Q (.ref q) H'
theorem ok_Inn_turn {C : Addr} (A : Ma K C "turn" "Inn.turn" P_Inn_turn s_Inn_turn) (B : Bi mg) (T : InnT K mg C) (M__check_there : Mf P w K mg base 1 C "_check_there" "Inn._check_there" P_Inn__check_there s_Inn__check_there (sp_Inn__check_there C))
    (M_go : Mf P w K mg base 3 C "go" "Inn.go" P_Inn_go s_Inn_go (sp_Inn_go C)) (M_come : Mf P w K mg base 2 C "come" "Inn.come" P_Inn_come s_Inn_come (sp_Inn_come C)) : Mf P w K mg base 4 C "turn" "Inn.turn" P_Inn_turn s_Inn_turn (sp_Inn_turn C) := by
  refine A.mf fun f fd F => F.ok sc_Inn_turn (fun vs H Q E h => ?_) (fun cdv AA outer s H vs Q E hr h => ?_)
  · obtain ⟨_, _, _, _, _, _, _, rfl, _⟩ := h
    rfl
  · obtain ⟨BB, p, d, o, ts, gs, x, rfl, hI, hF, hx, h0, hl, q1⟩ := h
    have nd := sc_Inn_turn.nd
    refine ⟨_, (pss_cons (ps_expr (pe_mf M__check_there T.cl (hr.mono (by decide)) (pv 0) (pa_cons (pv 1) pa_nil)))
    (pss_cons (ps_if (pt_cmpR op_lt (pv 2) pe_int (nomark _)) (pss_one ps_never) pss_nil)
    (pss_cons (ps_set (i := 3) nd rfl (.inl rfl) (pe_mf M_go T.cl (hr.mono (by decide)) (pv 0) (pa_cons (pv 1) pa_nil)))
    (pss_one (ps_ret (pe_op op_cat (pv 3) (pe_mf M_come T.cl (hr.mono (by decide)) (pv 0) (pa_cons (pv 1) (pa_cons (pv 2) pa_nil))))))))), ?_⟩
    obtain ⟨dx, hp⟩ := hI.ob
    refine ⟨_, rfl, p, dx, _, rfl, hp, iflds_no _ _ (by decide +kernel) (by decide +kernel), _, rfl, BB, p, d, o, ts, gs, _, x.1, rfl, hI, hF.nd, hx, ?_⟩
    refine ⟨.int x.2, rfl, _, _, rfl, rfl, _, rfl, ?_⟩
    rw [decide_eq_false (by omega)]
    refine iteF ?_
    refine ⟨_, rfl, p, dx, _, rfl, hp, iflds_no _ _ (by decide +kernel) (by decide +kernel), _, rfl, BB, p, d, o, ts, gs, x.1, rfl, hI, hF, hx, by omega, fun H1 q us ts1 I1 G1 k1 v1 => ?_⟩
    dsimp only [gName]
    obtain ⟨dx1, hp1⟩ := I1.ob
    have l2 := butA_len gs x.1
    refine ⟨_, rfl, _, rfl, p, dx1, _, rfl, hp1, iflds_no _ _ (by decide +kernel) (by decide +kernel), _, rfl, _, rfl, _, p, d, o, ts1, butA gs x.1, x, rfl, I1, hF.turned h0, by omega, fun H2 q2 us2 ts2 I2 G2 k2 v2 => ?_⟩
    have G1' : GsAt H2 (fun b => H b = none ∧ ¬ Apart BB H q us b) q us (goT gs x.1) := (G1.reB fun b m e => ⟨e, fun z => m.elim z.2.1 z.2.2⟩).keep (k2.weak fun b z => z.2)
    have lg := goT_len gs x.1
    have lc := comeT_len (butA gs x.1) x
    refine ⟨q, q2, _, _, rfl, rfl, G1'.top, G2.top, ?_, fun u nu => ?_⟩
    · rw [List.length_map, List.length_map, G1'.len, G2.len]
      exact Nat.le_of_lt (ils (by omega))
    have su := same_new (o := .lst (us.map V.ref ++ us2.map V.ref)) nu
    have gone : ∀ b, H2 b = none → H b = none := fun b e => v1 b (v2 b e)
    have e1 : ∀ b, H1 b = none → H b = none := v1
    refine q1 _ u (us ++ us2) ts2 ?_ ?_ ?_ fun b e => gone b (su.free e)
    · refine (I2.reB (B' := Apart BB H u (us ++ us2)) fun b z hb => ⟨?_, fun y => ?_, fun m => ?_⟩).same su
      · rcases hb.1 with y | y
        · exact y.1
        · exact .inr (v1 b y)
      · obtain ⟨v, ev⟩ := z
        rw [y, nu] at ev
        cases ev
      · rcases List.mem_append.mp m with m | m
        · rcases hb.1 with y | y
          · exact y.2.2 m
          · obtain ⟨v, ev⟩ := G1.there b (.inr m)
            rw [y] at ev
            cases ev
        · exact hb.2.2 m
    · refine ⟨?_, gone u nu, ?_, fun i t g a1 a2 => ?_, fun t m => ?_⟩
      · rw [upd_same, List.map_append]
      · rw [List.length_append, G1.len, G2.len]
        unfold turnT
        rw [List.length_append]
      · unfold turnT at a2
        by_cases hi : i < us.length
        · rw [List.getElem?_append_left hi] at a1
          rw [List.getElem?_append_left (by rw [← G1.len]; exact hi)] at a2
          exact su _ _ (G1'.at' i t g a1 a2)
        · rw [List.getElem?_append_right (by omega)] at a1
          rw [List.getElem?_append_right (by rw [← G1.len]; omega), ← G1.len] at a2
          exact su _ _ (G2.at' _ t g a1 a2)
      · rcases List.mem_append.mp m with m | m
        · exact G1.b t m
        · exact v1 t (G2.b t m)
    · refine (fun b y hb e => su _ _ (k2 b y (fun z => ?_) (k1 b y hb e)) : Kp (fun b => ¬ BB b) H _)
      rcases z.1 with z | z
      · exact hb z
      · rw [z] at e
        cases e
end
end El
namespace El
open PySem PySem.Spec PyProof.Rows L2
section
variable {P : Program} {w : World} {K : PySem.W.Frag} {mg : Str → Option Value} {base : Heap}
abbrev s_Inn_guests : Stmt := inClass (topS 12) 4
abbrev N_Inn_guests : List Str := ["self", "ages", "age"]
abbrev P_Inn_guests : List Str := ["self"]
theorem sc_Inn_guests : FnScope N_Inn_guests P_Inn_guests (defScope s_Inn_guests) := ⟨rfl, rfl, rfl, by decide +kernel, rfl, by decide +kernel, by decide +kernel⟩
def sp_Inn_guests (C : Addr) : Sp := fun vs H Q _ => ∃ (B : Addr → Prop) (p d o : Addr) (ts : List Addr) (gs : List (Int × Int)) (rs : List (List Int)), vs = [.ref p] ∧ InnAt C H B p d o ts gs rs ∧ Fit gs ∧ gs.length ≤ 1000 ∧
  ∀ (H' : Hp) (q : Addr) (us : List Addr), Same H H' → GsAt H' (fun b => H b = none) q us (byAge gs) → Q (.ref q) H'
theorem ok_Inn_guests {C : Addr} (A : Ma K C "guests" "Inn.guests" P_Inn_guests s_Inn_guests) (B : Bi mg) (T : InnT K mg C) : Mf P w K mg base 1 C "guests" "Inn.guests" P_Inn_guests s_Inn_guests (sp_Inn_guests C) := by
  refine A.mf fun f fd F => F.ok sc_Inn_guests (fun vs H Q E h => ?_) (fun cdv AA outer s H vs Q E hr h => ?_)
  · obtain ⟨_, _, _, _, _, _, _, rfl, _⟩ := h
    rfl
  · obtain ⟨BB, p, d, o, ts, gs, rs, rfl, hI, hF, hl, q⟩ := h
    have nd := sc_Inn_guests.nd
    refine ⟨_, (pss_cons (ps_set (i := 1) nd rfl (.inl rfl) (pe_callBK (cr_sortedRevD (b := true) rfl) (by rfl) B.sorted (by decide +kernel) (pa_cons (pe_fld (pv 0) rfl) pa_nil) (pk_cons pe_bl pk_nil)))
    (pss_one (ps_ret (pe_lc (own := [("age", 2)]) (tt := tYes) rfl nd (pi_list (pv 1)) (blkOk_by (N := N_Inn_guests) (sc := defScope s_Inn_guests) (by decide +kernel)) (fun _ _ _ _ _ => (pg_name (i := 2) nd rfl (.inl rfl))) (fun _ _ _ _ _ => pts_nil) (fun _ _ _ _ _ => (pe_tup (pa_cons (pv 2) (pa_cons (pe_dget (hu_of hr) (fldK K (pv 0)) (pv 2) (fun _ _ => rfl)) pa_nil)))))))), ?_⟩
    obtain ⟨dx, hp⟩ := hI.ob
    refine ⟨_, rfl, p, C, dx, _, _, rfl, hp, T.cl, T.nP, iflds_p _ _, d, pks gs, gs.map (·.1), rfl, rfl, .inl hI.dc, pks_keys gs, fun ns u hp2 ho nu => ?_⟩
    have hns : ns = (byAge gs).map (·.1) := ages_of hF hp2 ho
    subst hns
    have s1 : Same H (upd H u (.lst (((byAge gs).map (·.1)).map V.int))) := same_new nu
    have e1 : upd H u (.lst (((byAge gs).map (·.1)).map V.int)) u = some (.lst (((byAge gs).map (·.1)).map V.int)) := upd_same
    revert s1 e1
    generalize upd H u (.lst (((byAge gs).map (·.1)).map V.int)) = H1
    intro s1 e1
    dsimp only [gName]
    have I1 := hI.same s1
    refine ⟨_, rfl, u, rfl, ⟨_, SqL.of e1⟩, fun D nD => ?_⟩
    have nDu : u ≠ D := ne_of_none e1 nD
    have nDH : H D = none := s1.free nD
    refine lc_it (walk_list (xs := ((byAge gs).map (·.1)).map V.int)) (fun k H2 => Same H1 H2 ∧ ∃ us, GsAt H2 (fun b => H b = none) D us ((byAge gs).take k)) ⟨same_new nD, [], upd_same, nDH, rfl, fun i t g e _ => by simp at e, fun t m => by simp at m⟩ (fun k H2 _ hW => SqL.of (hW.1 _ _ e1)) (fun k v H2 H3 hk hW hY => ?_) (fun H2 hW => ?_)
    · obtain ⟨sm, us, G2⟩ := hW
      obtain ⟨rfl, hv⟩ := hY
      obtain ⟨a, ea, rfl⟩ := ints_at hv
      rw [List.getElem?_map] at ea
      obtain ⟨g, eg, rfl⟩ := Option.map_eq_some_iff.mp ea
      have mg : g ∈ gs := (byAge_perm gs).mem_iff.mp (List.mem_of_getElem? eg)
      have I2 := I1.same sm
      obtain ⟨dx2, hp2⟩ := I2.ob
      refine ⟨rfl, .int g.1, rfl, _, rfl, p, C, dx2, _, _, rfl, hp2, T.cl, T.nP, iflds_p _ _, .int g.1, rfl, d, _, rfl, dget_pks I2.dc hF mg, (by show 2 ≤ sizeLine; decide), fun t nt => ?_⟩
      have st := same_new (o := .tup [.int g.1, .int g.2]) nt
      have G3 := (G2.same st).push G2.offTs (g := g) upd_same (s1.free (sm.free nt))
      rw [← take_snoc eg] at G3
      refine ⟨_, (G2.same st).top, ils ?_, Same.mut (sm.trans st) nD, _, G3⟩
      rw [List.length_map, G2.len, List.length_take, byAge_length]
      omega
    · obtain ⟨sm, us, G2⟩ := hW
      rw [List.length_map, List.length_map, List.take_length] at G2
      exact q H2 D us (s1.trans sm) G2
end
end El
namespace El
open PySem PySem.Spec PyProof.Rows L2
section
variable {P : Program} {w : World} {K : PySem.W.Frag} {mg : Str → Option Value} {base : Heap}
abbrev s_Inn___len__ : Stmt := inClass (topS 12) 7
abbrev N_Inn___len__ : List Str := ["self"]
abbrev P_Inn___len__ : List Str := ["self"]
theorem sc_Inn___len__ : FnScope N_Inn___len__ P_Inn___len__ (defScope s_Inn___len__) := ⟨rfl, rfl, rfl, by decide +kernel, rfl, by decide +kernel, by decide +kernel⟩
def sp_Inn___len__ (C : Addr) : Sp := fun vs H Q _ => ∃ (B : Addr → Prop) (p d o : Addr) (ts : List Addr) (gs : List (Int × Int)) (rs : List (List Int)), vs = [.ref p] ∧ InnAt C H B p d o ts gs rs ∧ Q (.int gs.length) H
theorem ok_Inn___len__ {C : Addr} (A : Ma K C "__len__" "Inn.__len__" P_Inn___len__ s_Inn___len__) (B : Bi mg) (T : InnT K mg C) : Mf P w K mg base 1 C "__len__" "Inn.__len__" P_Inn___len__ s_Inn___len__ (sp_Inn___len__ C) := by
  refine A.mf fun f fd F => F.ok sc_Inn___len__ (fun vs H Q E h => ?_) (fun cdv AA outer s H vs Q E hr h => ?_)
  · obtain ⟨_, _, _, _, _, _, _, rfl, _⟩ := h
    rfl
  · obtain ⟨BB, p, d, o, ts, gs, rs, rfl, hI, q⟩ := h
    have nd := sc_Inn___len__.nd
    refine ⟨_, (pss_one (ps_ret (pe_callB call_lenD (by rfl) B.len PySem.boot_len (pa_cons (pe_fld (pv 0) rfl) pa_nil)))), ?_⟩
    obtain ⟨dx, hp⟩ := hI.ob
    refine ⟨_, rfl, p, C, dx, _, _, rfl, hp, T.cl, T.nP, iflds_p _ _, d, _, rfl, hI.dc, ?_⟩
    rw [pks_len]
    exact q
end
end El
namespace El
open PySem PySem.Spec PyProof.Rows L2
/-! ### a dict that counts -/
def putG (gs : List (Int × Int)) (z v : Int) : List (Int × Int) := if z ∈ gs.map (·.1) then gs.map (fun g => if g.1 = z then (g.1, v) else g) else gs ++ [(z, v)]
theorem putG_pks (gs : List (Int × Int)) (z v : Int) : putK (pks gs) (Sum.inl z : L2.Key) (V.int v) = pks (putG gs z v) := by
  have e : (pks gs).any (fun kv => decide (kv.1 = (Sum.inl z : L2.Key))) = decide (z ∈ gs.map (·.1)) := by
    induction gs with
    | nil => rfl
    | cons g gs ih =>
      show (decide ((Sum.inl g.1 : L2.Key) = Sum.inl z) || (pks gs).any (fun kv => decide (kv.1 = (Sum.inl z : L2.Key)))) = decide (z ∈ g.1 :: gs.map (·.1))
      rw [ih]
      by_cases h : g.1 = z
      · rw [h]
        simp
      · rw [decide_eq_false (show ¬ (Sum.inl g.1 : L2.Key) = Sum.inl z from fun y => h (Sum.inl.inj y)), Bool.false_or]
        refine decide_eq_decide.mpr ⟨fun m => List.mem_cons_of_mem _ m, fun m => ?_⟩
        rcases List.mem_cons.mp m with y | y
        · exact absurd y.symm h
        · exact y
  unfold putK putG
  rw [e]
  by_cases h : z ∈ gs.map (·.1)
  · rw [if_pos (decide_eq_true h), if_pos h]
    show (gs.map fun g => ((Sum.inl g.1 : L2.Key), V.int g.2)).map _ = (gs.map _).map _
    rw [List.map_map, List.map_map]
    refine List.map_congr_left fun g _ => ?_
    show (if (Sum.inl g.1 : L2.Key) = Sum.inl z then ((Sum.inl g.1 : L2.Key), V.int v) else (Sum.inl g.1, V.int g.2)) = (Sum.inl (if g.1 = z then (g.1, v) else g).1, V.int (if g.1 = z then (g.1, v) else g).2)
    by_cases y : g.1 = z
    · rw [if_pos (by rw [y]), if_pos y]
    · rw [if_neg (fun k => y (Sum.inl.inj k)), if_neg y]
  · rw [if_neg (by rw [decide_eq_true_iff]; exact h), if_neg h]
    rw [pks_snoc]
theorem putG_keys (gs : List (Int × Int)) (z v : Int) : (putG gs z v).map (·.1) = if z ∈ gs.map (·.1) then gs.map (·.1) else gs.map (·.1) ++ [z] := by
  unfold putG
  by_cases h : z ∈ gs.map (·.1)
  · rw [if_pos h, if_pos h, List.map_map]
    refine List.map_congr_left fun g _ => ?_
    show (if g.1 = z then (g.1, v) else g).1 = g.1
    split <;> rfl
  · rw [if_neg h, if_neg h, List.map_append]
    rfl
theorem putG_nd {gs : List (Int × Int)} {z v : Int} (nd : (gs.map (·.1)).Nodup) : ((putG gs z v).map (·.1)).Nodup := by
  rw [putG_keys]
  by_cases h : z ∈ gs.map (·.1)
  · rw [if_pos h]
    exact nd
  · rw [if_neg h]
    exact List.nodup_append.mpr ⟨nd, by simp, fun a ha b hb => by
      rw [List.mem_singleton.mp hb]
      exact fun e => h (e ▸ ha)⟩
end El
namespace El
open PySem PySem.Spec PyProof.Rows L2
/-! ### who lives where, and how full the rooms are, step by step -/
/-- somebody of age a is in room v -/
def atR (rs : List (List Int)) (a v : Int) : Prop := ∃ (k : Nat) (r : List Int), v = (k : Int) ∧ rs[k]? = some r ∧ a ∈ r
def sz (rs : List (List Int)) (k : Nat) : Nat := (rs.getD k []).length
theorem sz_at {rs : List (List Int)} {k : Nat} {r : List Int} (e : rs[k]? = some r) : sz rs k = r.length := by
  unfold sz
  rw [List.getD_eq_getElem?_getD, e]
  rfl
theorem sz_out {rs : List (List Int)} {k : Nat} (e : rs[k]? = none) : sz rs k = 0 := by
  unfold sz
  rw [List.getD_eq_getElem?_getD, e]
  rfl
/-- room i as r -/
theorem atR_set {rs : List (List Int)} {i : Nat} {E r : List Int} (e : rs[i]? = some E) (a v : Int) : atR (rs.set i r) a v ↔ (v = (i : Int) ∧ a ∈ r) ∨ (v ≠ (i : Int) ∧ atR rs a v) := by
  have hi := at_lt e
  constructor
  · rintro ⟨k, q, rfl, ek, m⟩
    by_cases z : i = k
    · subst z
      rw [List.getElem?_set_self hi] at ek
      cases ek
      exact .inl ⟨rfl, m⟩
    · rw [List.getElem?_set_ne z] at ek
      exact .inr ⟨by omega, k, q, rfl, ek, m⟩
  · rintro (⟨rfl, m⟩ | ⟨ne, k, q, rfl, ek, m⟩)
    · exact ⟨i, r, rfl, List.getElem?_set_self hi, m⟩
    · exact ⟨k, q, rfl, by rw [List.getElem?_set_ne (by omega)]; exact ek, m⟩
theorem sz_set {rs : List (List Int)} {i : Nat} {E r : List Int} (e : rs[i]? = some E) (k : Nat) : sz (rs.set i r) k = if k = i then r.length else sz rs k := by
  by_cases z : k = i
  · rw [if_pos z, z]
    exact sz_at (List.getElem?_set_self (at_lt e))
  · rw [if_neg z]
    unfold sz
    rw [List.getD_eq_getElem?_getD, List.getD_eq_getElem?_getD, List.getElem?_set_ne (fun y => z y.symm)]
theorem down_mem {ns : List Int} {a : Int} : a ∈ down ns ↔ a ∈ ns := (down_perm ns).mem_iff
theorem at_here {rs : List (List Int)} {i : Nat} {E : List Int} (e : rs[i]? = some E) (a : Int) : atR rs a (i : Int) ↔ a ∈ E := by
  constructor
  · rintro ⟨k, r, z, ek, m⟩
    have : k = i := by omega
    subst this
    rw [e] at ek
    cases ek
    exact m
  · exact fun m => ⟨i, E, rfl, e, m⟩
theorem atR_enter {rs : List (List Int)} {i : Nat} {x : Int} (h : i ≤ rs.length) (a v : Int) : atR (enterR rs i x) a v ↔ (a = x ∧ v = (i : Int)) ∨ atR rs a v := by
  rcases Nat.lt_or_ge i rs.length with hi | hi
  · obtain ⟨r, er⟩ := at_some hi
    rw [enterR_old x er, atR_set er]
    constructor
    · rintro (⟨rfl, m⟩ | ⟨_, h⟩)
      · rcases List.mem_append.mp (down_mem.mp m) with m | m
        · exact .inr ((at_here er a).mpr m)
        · exact .inl ⟨List.mem_singleton.mp m, rfl⟩
      · exact .inr h
    · rintro (⟨rfl, rfl⟩ | h)
      · exact .inl ⟨rfl, down_mem.mpr (List.mem_append_right _ (List.mem_singleton.mpr rfl))⟩
      · by_cases z : v = (i : Int)
        · subst z
          exact .inl ⟨rfl, down_mem.mpr (List.mem_append_left _ ((at_here er a).mp h))⟩
        · exact .inr ⟨z, h⟩
  · have e : i = rs.length := Nat.le_antisymm h hi
    subst e
    rw [enterR_new]
    constructor
    · rintro ⟨k, r, rfl, ek, m⟩
      rcases Nat.lt_or_ge k rs.length with hk | hk
      · rw [List.getElem?_append_left hk] at ek
        exact .inr ⟨k, r, rfl, ek, m⟩
      · have hk2 := at_lt ek
        rw [List.length_append, List.length_singleton] at hk2
        have : k = rs.length := by omega
        subst this
        rw [List.getElem?_append_right (Nat.le_refl _), Nat.sub_self] at ek
        cases ek
        exact .inl ⟨List.mem_singleton.mp m, rfl⟩
    · rintro (⟨rfl, rfl⟩ | ⟨k, r, rfl, ek, m⟩)
      · exact ⟨rs.length, [a], rfl, by rw [List.getElem?_append_right (Nat.le_refl _), Nat.sub_self]; rfl, List.mem_singleton.mpr rfl⟩
      · exact ⟨k, r, rfl, by rw [List.getElem?_append_left (at_lt ek)]; exact ek, m⟩
theorem sz_enter {rs : List (List Int)} {i : Nat} {x : Int} (h : i ≤ rs.length) (k : Nat) : sz (enterR rs i x) k = sz rs k + if k = i then 1 else 0 := by
  rcases Nat.lt_or_ge i rs.length with hi | hi
  · obtain ⟨r, er⟩ := at_some hi
    rw [enterR_old x er, sz_set er]
    by_cases z : k = i
    · rw [if_pos z, if_pos z, z, sz_at er, (down_perm _).length_eq, List.length_append]
      rfl
    · rw [if_neg z, if_neg z]
      rfl
  · have e : i = rs.length := Nat.le_antisymm h hi
    subst e
    rw [enterR_new]
    rcases Nat.lt_trichotomy k rs.length with hk | hk | hk
    · obtain ⟨r, er⟩ := at_some hk
      rw [if_neg (by omega), sz_at er, sz_at (r := r) (by rw [List.getElem?_append_left hk]; exact er)]
      rfl
    · subst hk
      rw [if_pos rfl, sz_out (List.getElem?_eq_none (Nat.le_refl _)), sz_at (r := [x]) (by rw [List.getElem?_append_right (Nat.le_refl _), Nat.sub_self]; rfl)]
      rfl
    · have e1 : sz rs k = 0 := sz_out (List.getElem?_eq_none (by omega))
      have e2 : sz (rs ++ [[x]]) k = 0 := sz_out (List.getElem?_eq_none (by rw [List.length_append, List.length_singleton]; omega))
      rw [if_neg (by omega), e1, e2]
theorem atR_off {rs : List (List Int)} {i : Nat} {E : List Int} {y : Int} (e : rs[i]? = some E) (nd : E.Nodup) (a v : Int) : atR (rs.set i (E.erase y)) a v ↔ atR rs a v ∧ ¬ (a = y ∧ v = (i : Int)) := by
  rw [atR_set e]
  constructor
  · rintro (⟨rfl, m⟩ | ⟨ne, h⟩)
    · obtain ⟨m1, m2⟩ := nd.mem_erase_iff.mp m
      exact ⟨(at_here e a).mpr m2, fun z => m1 z.1⟩
    · exact ⟨h, fun z => ne z.2⟩
  · rintro ⟨h, no⟩
    by_cases z : v = (i : Int)
    · subst z
      exact .inl ⟨rfl, nd.mem_erase_iff.mpr ⟨fun y => no ⟨y, rfl⟩, (at_here e a).mp h⟩⟩
    · exact .inr ⟨z, h⟩
theorem sz_off {rs : List (List Int)} {i : Nat} {E : List Int} {y : Int} (e : rs[i]? = some E) (m : y ∈ E) (k : Nat) : sz (rs.set i (E.erase y)) k + (if k = i then 1 else 0) = sz rs k := by
  rw [sz_set e]
  by_cases z : k = i
  · rw [if_pos z, if_pos z, z, sz_at e, List.length_erase_of_mem m]
    have := List.length_pos_of_mem m
    omega
  · rw [if_neg z, if_neg z]
    rfl
/-! #### somebody comes -/
theorem ite_iff {p q : Prop} [Decidable p] [Decidable q] (h : p ↔ q) (a b : Nat) : (if p then a else b) = if q then a else b := by
  by_cases c : p
  · rw [if_pos c, if_pos (h.mp c)]
  · rw [if_neg c, if_neg fun z => c (h.mpr z)]
theorem nd_of {α β : Type} {f : α → β} {l : List α} (h : (l.map f).Nodup) : l.Nodup := by
  rw [List.Nodup, List.pairwise_map] at h
  exact h.imp fun h e => h (congrArg f e)
inductive Going (rs' : List (List Int)) : List (List Int) → Nat → Int → List (Int × Int) → Prop
  | last {rs : List (List Int)} {i : Nat} {x : Int} : i ≤ rs.length → enterR rs i x = rs' → Going rs' rs i x [(x, (i : Int))]
  | on {rs : List (List Int)} {i : Nat} {x y : Int} {E : List Int} {T : List (Int × Int)} : i ≤ rs.length → (enterR rs i x)[i]? = some E → E.Nodup → y ∈ E → Going rs' ((enterR rs i x).set i (E.erase y)) (i + 1) y T → Going rs' rs i x ((x, (i : Int)) :: T)
theorem going_of {gs : List (Int × Int)} (F : Fit gs) : ∀ (n : Nat) {rs : List (List Int)} {i : Nat} {x : Int × Int}, Mid gs rs i x → (settle gs).length ≤ i + n → Going (settle gs) rs i x.1 (comeF n gs rs i x.1).1
  | 0, rs, i, x, M, h => by
    have := M.first F
    omega
  | n + 1, rs, i, x, M, h => by
    obtain ⟨E, eE, _, _, nd, out⟩ := M.step F
    have hi := (M.first F).2.1
    rcases out with ⟨h1, h2⟩ | ⟨y, yE, h1, M'⟩
    · rw [comeF_end eE h1]
      exact .last hi h2
    · rw [comeF_on eE h1]
      exact .on hi eE nd yE (going_of F n M' (by omega))
theorem comes_going {gs : List (Int × Int)} {x : Int × Int} (F : Fit (gs ++ [x])) : Going (settle (gs ++ [x])) (settle gs) 0 x.1 (comeT gs x) := going_of F _ (Mid.start F) (by omega)
theorem Going.ne {rs' rs : List (List Int)} {i : Nat} {x : Int} {T : List (Int × Int)} (h : Going rs' rs i x T) : ∃ T', T = (x, (i : Int)) :: T' := by
  cases h with
  | last => exact ⟨_, rfl⟩
  | on => exact ⟨_, rfl⟩
/-- the spots that are told -/
theorem Going.spots {rs' : List (List Int)} : ∀ {rs : List (List Int)} {i : Nat} {x : Int} {T : List (Int × Int)}, Going rs' rs i x T → T.map (·.2) = (List.range T.length).map fun k => ((i + k : Nat) : Int) := by
  intro rs i x T h
  induction h with
  | last => rfl
  | on _ _ _ _ _ ih =>
    rename_i rs i x y E T _ _ _ _ _
    rw [List.map_cons, ih, List.length_cons, List.range_succ_eq_map, List.map_cons, List.map_map]
    congr 1
    refine List.map_congr_left fun k _ => ?_
    show ((i + 1 + k : Nat) : Int) = ((i + (k + 1) : Nat) : Int)
    congr 1
    omega
/-- one room is one fuller, and no other has changed -/
theorem Going.sizes {rs' : List (List Int)} {rs : List (List Int)} {i : Nat} {x : Int} {T : List (Int × Int)} (h : Going rs' rs i x T) : ∀ k, sz rs' k = sz rs k + if k + 1 = i + T.length then 1 else 0 := by
  induction h with
  | last hi e =>
    intro k
    rw [← e, sz_enter hi]
    congr 1
    refine ite_iff ?_ _ _
    rw [List.length_singleton]
    omega
  | on hi eE nd yE _ ih =>
    rename_i rs i x y E T _
    intro k
    have h1 := sz_off eE yE k
    have h2 := sz_enter (x := x) hi k
    rw [ih k, List.length_cons]
    have e : (if k + 1 = i + 1 + T.length then 1 else 0) = if k + 1 = i + (T.length + 1) then 1 else 0 := ite_iff (by omega) _ _
    rw [e]
    omega
/-- a list that tells who lives where -/
structure Hom (ds : List (Int × Int)) (S : Int → Int → Prop) : Prop where
  nd : (ds.map (·.1)).Nodup
  eq : ∀ a v, (a, v) ∈ ds ↔ S a v
theorem putG_mem {ds : List (Int × Int)} {z w : Int} (a v : Int) : (a, v) ∈ putG ds z w ↔ (a = z ∧ v = w) ∨ (a ≠ z ∧ (a, v) ∈ ds) := by
  unfold putG
  by_cases h : z ∈ ds.map (·.1)
  · rw [if_pos h]
    constructor
    · intro m
      obtain ⟨g, mg, eg⟩ := List.mem_map.mp m
      by_cases c : g.1 = z
      · rw [if_pos c] at eg
        cases eg
        exact .inl ⟨c, rfl⟩
      · rw [if_neg c] at eg
        subst eg
        exact .inr ⟨c, mg⟩
    · rintro (⟨rfl, rfl⟩ | ⟨ne, m⟩)
      · obtain ⟨g, mg, eg⟩ := List.mem_map.mp h
        exact List.mem_map.mpr ⟨g, mg, by rw [if_pos eg]; exact Prod.ext eg rfl⟩
      · exact List.mem_map.mpr ⟨(a, v), m, if_neg ne⟩
  · rw [if_neg h, List.mem_append, List.mem_singleton]
    constructor
    · rintro (m | m)
      · exact .inr ⟨fun z => h (z ▸ List.mem_map_of_mem (f := (·.1)) m), m⟩
      · cases m
        exact .inl ⟨rfl, rfl⟩
    · rintro (⟨rfl, rfl⟩ | ⟨_, m⟩)
      · exact .inr rfl
      · exact .inl m
theorem Hom.perm {ds ds' : List (Int × Int)} {S : Int → Int → Prop} (h : Hom ds S) (h' : Hom ds' S) : ds.Perm ds' := by
  have n1 : ds.Nodup := nd_of h.nd
  have n2 : ds'.Nodup := nd_of h'.nd
  refine (List.perm_ext_iff_of_nodup n1 n2).mpr fun g => ?_
  obtain ⟨a, v⟩ := g
  rw [h.eq, h'.eq]
theorem Hom.get {ds : List (Int × Int)} {S : Int → Int → Prop} (h : Hom ds S) {a v : Int} (m : S a v) : valV (pks ds) (Sum.inl a) = some (.int v) := pks_some (g := (a, v)) h.nd ((h.eq a v).mpr m)
/-- before x enters room i: all others live where they do, x in the room before, but the one who is new -/
structure Bef (ds : List (Int × Int)) (rs : List (List Int)) (i : Nat) (x old : Int) : Prop where
  nd : (ds.map (·.1)).Nodup
  rest : ∀ a v, a ≠ x → ((a, v) ∈ ds ↔ atR rs a v)
  own : x = old ∨ (x, (i : Int) - 1) ∈ ds
  off : ∀ v, ¬ atR rs x v
theorem Bef.put {ds : List (Int × Int)} {rs : List (List Int)} {i : Nat} {x old : Int} (h : Bef ds rs i x old) (hi : i ≤ rs.length) : Hom (putG ds x (i : Int)) (atR (enterR rs i x)) := by
  refine ⟨putG_nd h.nd, fun a v => ?_⟩
  rw [putG_mem, atR_enter hi]
  constructor
  · rintro (z | ⟨ne, m⟩)
    · exact .inl z
    · exact .inr ((h.rest a v ne).mp m)
  · rintro (z | z)
    · exact .inl z
    · by_cases c : a = x
      · exact absurd (c ▸ z) (h.off v)
      · exact .inr ⟨c, (h.rest a v c).mpr z⟩
theorem Hom.bef {ds : List (Int × Int)} {rs : List (List Int)} {i : Nat} {y old : Int} {E : List Int} (h : Hom ds (atR rs)) (e : rs[i]? = some E) (nd : E.Nodup) (m : y ∈ E) : Bef ds (rs.set i (E.erase y)) (i + 1) y old := by
  have one : ∀ v, atR rs y v → v = (i : Int) := fun v z => by
    have h1 := (h.eq y v).mpr z
    have h2 := (h.eq y i).mpr ((at_here e y).mpr m)
    have p1 := pks_some (g := (y, v)) h.nd h1
    have p2 := pks_some (g := (y, (i : Int))) h.nd h2
    have p3 : some (V.int v) = some (V.int i) := p1.symm.trans p2
    exact V.int.inj (Option.some.inj p3)
  refine ⟨h.nd, fun a v ne => ?_, .inr ((h.eq _ _).mpr ?_), fun v z => ?_⟩
  · rw [h.eq, atR_off e nd]
    exact ⟨fun z => ⟨z, fun y => ne y.1⟩, fun z => z.1⟩
  · rw [show (((i + 1 : Nat) : Int) - 1) = (i : Int) by omega]
    exact (at_here e y).mpr m
  · obtain ⟨z1, z2⟩ := (atR_off e nd y v).mp z
    exact z2 ⟨rfl, one v z1⟩
/-! #### somebody goes -/
inductive Backing (rs' : List (List Int)) : List (List Int) → Nat → List (Int × Int) → Nat → Prop
  | last {rs : List (List Int)} {n : Nat} : (rs = rs' ∨ rs = rs' ++ [[]]) → Backing rs' rs n [] n
  | on {rs : List (List Int)} {n m z : Nat} {R S : List Int} {y : Int} {T : List (Int × Int)} : rs[n]? = some R → rs[m]? = some S → n < m → y ∈ S → S.Nodup → (∀ v, atR rs y v → v = (m : Int)) →
      Backing rs' ((rs.set m (S.erase y)).set n (down (R ++ [y]))) m T z → Backing rs' rs n ((y, (n : Int)) :: T) z
theorem backing_of {gs : List (Int × Int)} (F : Fit gs) : ∀ (k : Nat) {rs : List (List Int)} {n : Nat}, Hole gs rs n → rs.length ≤ n + k → ∃ z, Backing (settle gs) rs n (goF k gs rs n) z
  | 0, rs, n, h, hk => by
    obtain ⟨_, _, R, eR, _⟩ := h.step F
    have := at_lt eR
    omega
  | k + 1, rs, n, h, hk => by
    obtain ⟨nd, _, R, eR, out⟩ := h.step F
    rcases out with ⟨h1, h2, h3⟩ | ⟨y, m, S, h1, h2, h3, lt, eS, yS, only, h'⟩
    · rw [goF, backE_none eR h1]
      refine ⟨n, .last ?_⟩
      by_cases c : R = []
      · exact .inr (h3 c)
      · exact .inl (h2 c)
    · rw [goF, backE_some eR h1 h2 h3]
      have ew := whereI_is eS yS only
      have em : moveR rs m n y = (rs.set m (S.erase y)).set n (down (R ++ [y])) := by
        unfold moveR
        rw [List.getD_eq_getElem?_getD, List.getD_eq_getElem?_getD, eS, eR]
        rfl
      show ∃ z, Backing (settle gs) rs n ((y, (n : Int)) :: goF k gs (moveR rs (whereI rs y) n y) (whereI rs y)) z
      rw [ew, em]
      obtain ⟨z, B⟩ := backing_of F k h' (by rw [List.length_set, List.length_set]; omega)
      refine ⟨z, .on eR eS lt yS ?_ (fun v q => ?_) B⟩
      · obtain ⟨A, C, rfl⟩ := List.append_of_mem (List.mem_of_getElem? eS)
        rw [List.flatten_append, List.flatten_cons] at nd
        exact (List.nodup_append.mp (List.nodup_append.mp nd).2.1).1
      · obtain ⟨j, r, rfl, ej, mr⟩ := q
        rw [only j r ej mr]
theorem Backing.low {rs' : List (List Int)} {rs : List (List Int)} {n z : Nat} {T : List (Int × Int)} (h : Backing rs' rs n T z) : n ≤ z := by
  induction h with
  | last => exact Nat.le_refl _
  | on _ _ lt _ _ _ _ ih => omega
theorem sz_nil (rs : List (List Int)) (k : Nat) : sz (rs ++ [[]]) k = sz rs k := by
  rcases Nat.lt_or_ge k rs.length with hk | hk
  · obtain ⟨r, er⟩ := at_some hk
    rw [sz_at er, sz_at (r := r) (by rw [List.getElem?_append_left hk]; exact er)]
  · rw [sz_out (List.getElem?_eq_none hk)]
    rcases Nat.lt_or_ge rs.length k with h | h
    · exact sz_out (List.getElem?_eq_none (by rw [List.length_append, List.length_singleton]; omega))
    · exact sz_at (r := []) (by rw [List.getElem?_append_right hk, show k - rs.length = 0 by omega]; rfl)
theorem atR_nil (rs : List (List Int)) (a v : Int) : atR (rs ++ [[]]) a v ↔ atR rs a v := by
  constructor
  · rintro ⟨k, r, rfl, ek, m⟩
    rcases Nat.lt_or_ge k rs.length with hk | hk
    · rw [List.getElem?_append_left hk] at ek
      exact ⟨k, r, rfl, ek, m⟩
    · rw [List.getElem?_append_right hk] at ek
      have := List.mem_of_getElem? ek
      rw [List.mem_singleton.mp this] at m
      cases m
  · rintro ⟨k, r, rfl, ek, m⟩
    exact ⟨k, r, rfl, by rw [List.getElem?_append_left (at_lt ek)]; exact ek, m⟩
theorem sz_move {rs : List (List Int)} {n m : Nat} {R S : List Int} {y : Int} (eR : rs[n]? = some R) (eS : rs[m]? = some S) (lt : n < m) (yS : y ∈ S) (k : Nat) : sz ((rs.set m (S.erase y)).set n (down (R ++ [y]))) k + (if k = m then 1 else 0) = sz rs k + if k = n then 1 else 0 := by
  have e2 : (rs.set m (S.erase y))[n]? = some R := by
    rw [List.getElem?_set_ne (by omega)]
    exact eR
  rw [sz_set e2]
  have h1 := sz_off eS yS k
  by_cases c : k = n
  · have c2 : k ≠ m := by omega
    rw [if_pos c, if_neg c2, if_pos c, c, sz_at eR, (down_perm _).length_eq, List.length_append]
    rfl
  · rw [if_neg c, if_neg c]
    omega
theorem Backing.sizes {rs' : List (List Int)} {rs : List (List Int)} {n z : Nat} {T : List (Int × Int)} (h : Backing rs' rs n T z) : ∀ k, sz rs' k + (if k = z then 1 else 0) = sz rs k + if k = n then 1 else 0 := by
  induction h with
  | last e =>
    intro k
    rcases e with rfl | rfl
    · rfl
    · rw [sz_nil]
  | on eR eS lt yS _ _ _ ih =>
    intro k
    rw [ih k]
    exact sz_move eR eS lt yS k
theorem Backing.homes {rs : List (List Int)} {n m : Nat} {R S : List Int} {y : Int} {ds : List (Int × Int)} (h : Hom ds (atR rs)) (eR : rs[n]? = some R) (eS : rs[m]? = some S) (lt : n < m) (yS : y ∈ S) (nd : S.Nodup) (only : ∀ v, atR rs y v → v = (m : Int)) :
    Hom (putG ds y (n : Int)) (atR ((rs.set m (S.erase y)).set n (down (R ++ [y])))) := by
  have e2 : (rs.set m (S.erase y))[n]? = some R := by
    rw [List.getElem?_set_ne (by omega)]
    exact eR
  refine ⟨putG_nd h.nd, fun a v => ?_⟩
  rw [putG_mem, atR_set e2, atR_off eS nd, h.eq]
  constructor
  · rintro (⟨rfl, rfl⟩ | ⟨ne, q⟩)
    · exact .inl ⟨rfl, down_mem.mpr (List.mem_append_right _ (List.mem_singleton.mpr rfl))⟩
    · by_cases c : v = (n : Int)
      · subst c
        exact .inl ⟨rfl, down_mem.mpr (List.mem_append_left _ ((at_here eR a).mp q))⟩
      · exact .inr ⟨c, q, fun z => ne z.1⟩
  · rintro (⟨rfl, m'⟩ | ⟨c, q, no⟩)
    · rcases List.mem_append.mp (down_mem.mp m') with m' | m'
      · by_cases c : a = y
        · subst c
          exact .inl ⟨rfl, rfl⟩
        · exact .inr ⟨c, (at_here eR a).mpr m'⟩
      · exact .inl ⟨List.mem_singleton.mp m', rfl⟩
    · by_cases d : a = y
      · subst d
        exact absurd ⟨rfl, only v q⟩ no
      · exact .inr ⟨d, q⟩
theorem Hom.last {rs' rs : List (List Int)} {ds : List (Int × Int)} (h : Hom ds (atR rs)) (e : rs = rs' ∨ rs = rs' ++ [[]]) : Hom ds (atR rs') := by
  rcases e with rfl | rfl
  · exact h
  · exact ⟨h.nd, fun a v => (h.eq a v).trans (atR_nil _ a v)⟩
theorem goes_backing {gs : List (Int × Int)} (F : Fit gs) {a : Int} (ha : a ∈ gs.map (·.1)) : ∃ (n : Nat) (R : List Int) (z : Nat), (settle gs)[n]? = some R ∧ a ∈ R ∧ R.Nodup ∧ (∀ v, atR (settle gs) a v → v = (n : Int)) ∧ Backing (settle (gs.filter fun g => decide (g.1 ≠ a))) ((settle gs).set n (R.erase a)) n (goT gs a) z := by
  obtain ⟨x, mx, rfl⟩ := List.mem_map.mp ha
  obtain ⟨n, R, eR, m, nd, only, h⟩ := Hole.start F mx
  have ew := whereI_is eR m only
  have eg : goT gs x.1 = goF (settle gs).length (gs.filter fun g => decide (g.1 ≠ x.1)) ((settle gs).set n (R.erase x.1)) n := by
    unfold goT
    rw [ew, List.getD_eq_getElem?_getD, eR]
    rfl
  obtain ⟨z, B⟩ := backing_of (F.without x.1) (settle gs).length h (by rw [List.length_set]; omega)
  refine ⟨n, R, z, eR, m, nd, fun v q => ?_, by rw [eg]; exact B⟩
  obtain ⟨j, r, rfl, ej, mr⟩ := q
  rw [only j r ej mr]
/-- who is left when one of them goes out of the list -/
theorem Hom.but {ds : List (Int × Int)} {rs : List (List Int)} {n : Nat} {R : List Int} {a : Int} (h : Hom ds (atR rs)) (eR : rs[n]? = some R) (nd : R.Nodup) (only : ∀ v, atR rs a v → v = (n : Int)) : Hom (ds.filter fun g => decide (g.1 ≠ a)) (atR (rs.set n (R.erase a))) := by
  refine ⟨(List.filter_sublist.map _).nodup h.nd, fun b v => ?_⟩
  rw [atR_off eR nd, List.mem_filter, decide_eq_true_iff, h.eq]
  constructor
  · exact fun z => ⟨z.1, fun y => z.2 y.1⟩
  · exact fun z => ⟨z.1, fun y => z.2 ⟨y, only v (y ▸ z.1)⟩⟩
/-! #### the rooms one after another -/
def homeL (rs : List (List Int)) : List (Int × Int) := (rs.zipIdx.map fun r => r.1.map fun a => (a, (r.2 : Int))).flatten
theorem homeL_mem {rs : List (List Int)} (a v : Int) : (a, v) ∈ homeL rs ↔ atR rs a v := by
  unfold homeL
  rw [List.mem_flatten]
  constructor
  · rintro ⟨l, ml, m⟩
    obtain ⟨⟨r, k⟩, mr, rfl⟩ := List.mem_map.mp ml
    obtain ⟨b, mb, e⟩ := List.mem_map.mp m
    cases e
    exact ⟨k, r, rfl, List.mem_zipIdx_iff_getElem?.mp mr, mb⟩
  · rintro ⟨k, r, rfl, er, m⟩
    exact ⟨_, List.mem_map_of_mem (a := ((r, k) : List Int × Nat)) (List.mem_zipIdx_iff_getElem?.mpr er), List.mem_map.mpr ⟨a, m, rfl⟩⟩
theorem homeL_keys (rs : List (List Int)) : (homeL rs).map (·.1) = rs.flatten := by
  unfold homeL
  rw [List.map_flatten, List.map_map]
  congr 1
  have : ((fun l : List (Int × Int) => l.map (·.1)) ∘ fun r : List Int × Nat => r.1.map fun a => (a, (r.2 : Int))) = Prod.fst := by
    funext r
    show (r.1.map fun a => (a, (r.2 : Int))).map (·.1) = r.1
    rw [List.map_map]
    exact List.map_id r.1
  rw [this]
  exact List.zipIdx_map_fst 0 rs
theorem homeL_hom {rs : List (List Int)} (nd : rs.flatten.Nodup) : Hom (homeL rs) (atR rs) := ⟨by rw [homeL_keys]; exact nd, homeL_mem⟩
theorem homeL_snoc {rs : List (List Int)} {k : Nat} {r : List Int} (e : rs[k]? = some r) : homeL (rs.take (k + 1)) = homeL (rs.take k) ++ r.map fun a => (a, (k : Int)) := by
  unfold homeL
  have hk := at_lt e
  rw [take_snoc e, List.zipIdx_append, List.map_append, List.flatten_append, List.length_take]
  congr 1
  rw [Nat.min_eq_left (Nat.le_of_lt hk), Nat.zero_add]
  simp
theorem mergeK_app {ds es : List (Int × Int)} (nd : ((ds ++ es).map (·.1)).Nodup) : mergeK (pks ds) (pks es) = pks (ds ++ es) := by
  induction es generalizing ds with
  | nil =>
    rw [List.append_nil]
    rfl
  | cons g es ih =>
    have h : g.1 ∉ ds.map (·.1) := fun m => by
      rw [List.map_append, List.map_cons] at nd
      exact (List.nodup_append.mp nd).2.2 _ m _ List.mem_cons_self rfl
    show mergeK (putK (pks ds) (Sum.inl g.1) (V.int g.2)) (pks es) = _
    rw [putK_snoc h, ih (by rw [List.append_assoc]; exact nd), List.append_assoc]
    rfl
/-! #### what grew -/
def topR (rs rs' : List (List Int)) : Nat := if rs.length < rs'.length then rs'.length else rs.length
def fullerL (rs rs' : List (List Int)) : List (Int × Int) := (List.range (topR rs rs')).filterMap fun k => if sz rs' k = sz rs k then none else some ((k : Int), (sz rs' k : Int) - (sz rs k : Int))
theorem range_one : ∀ (n k0 : Nat) (g : Int × Int), k0 < n → (List.range n).filterMap (fun k => if k = k0 then some g else none) = [g]
  | 0, _, _, h => by omega
  | n + 1, k0, g, h => by
    rw [List.range_succ, List.filterMap_append]
    by_cases c : k0 = n
    · subst c
      have e : (List.range k0).filterMap (fun k => if k = k0 then some g else none) = [] := List.filterMap_eq_nil_iff.mpr fun k m => if_neg (by have := List.mem_range.mp m; omega)
      rw [e]
      simp
    · rw [range_one n k0 g (by omega)]
      simp
      omega
theorem fuller_one {rs rs' : List (List Int)} {k0 : Nat} {d : Int} (hk : k0 < topR rs rs') (hd : d ≠ 0) (h : ∀ k, (sz rs' k : Int) = sz rs k + if k = k0 then d else 0) : fullerL rs rs' = [((k0 : Int), d)] := by
  rw [← range_one (topR rs rs') k0 ((k0 : Int), d) hk]
  unfold fullerL
  congr 1
  funext k
  have hk := h k
  by_cases c : k = k0
  · rw [if_pos c] at hk ⊢
    rw [if_neg (by omega), c]
    subst c
    congr 2
    omega
  · rw [if_neg c] at hk ⊢
    exact if_pos (by omega)
theorem sz_room {rs : List (List Int)} {k : Nat} (h : 0 < sz rs k) : k < rs.length := by
  rcases Nat.lt_or_ge k rs.length with c | c
  · exact c
  · rw [sz_out (List.getElem?_eq_none c)] at h
    omega
theorem comes_fuller {gs : List (Int × Int)} {x : Int × Int} (F : Fit (gs ++ [x])) : fullerL (settle gs) (settle (gs ++ [x])) = [(((comeT gs x).length : Int) - 1, 1)] := by
  have G := comes_going F
  obtain ⟨T', eT⟩ := G.ne
  have hl : 0 < (comeT gs x).length := by
    rw [eT]
    exact Nat.succ_pos _
  have S := G.sizes
  have hk : (comeT gs x).length - 1 < topR (settle gs) (settle (gs ++ [x])) := by
    have h1 := S ((comeT gs x).length - 1)
    rw [if_pos (by omega)] at h1
    have := sz_room (rs := settle (gs ++ [x])) (k := (comeT gs x).length - 1) (by omega)
    unfold topR
    split <;> omega
  rw [fuller_one hk (d := 1) (by decide) fun k => ?_]
  · congr 2
    omega
  · rw [S k]
    by_cases c : k = (comeT gs x).length - 1
    · rw [if_pos c, if_pos (by omega)]
      rfl
    · rw [if_neg c, if_neg (by omega)]
      rfl
end El
namespace El
open PySem PySem.Spec PyProof.Rows L2
section
variable {P : Program} {w : World} {K : PySem.W.Frag} {mg : Str → Option Value} {base : Heap}
abbrev s__law_by_age : Stmt := topS 21
abbrev N__law_by_age : List Str := ["folk", "found", "old", "bears", "fine", "room"]
abbrev P__law_by_age : List Str := ["folk"]
theorem sc__law_by_age : FnScope N__law_by_age P__law_by_age (defScope s__law_by_age) := ⟨rfl, rfl, rfl, by decide +kernel, rfl, by decide +kernel, by decide +kernel⟩
def sp__law_by_age : Sp := fun vs H Q _ => ∃ (B : Addr → Prop) (a : Addr) (ts : List Addr) (gs : List (Int × Int)), vs = [.ref a] ∧ GsAt H B a ts gs ∧ Fit gs ∧ gs.length ≤ 1000 ∧
  ∀ H' o us, Same H H' → RmsAt H' (fun b => H b = none) o us (settle gs) → Q (.ref o) H'
theorem ok__law_by_age (A : At K mg "_law_by_age" P__law_by_age s__law_by_age) (B : Bi mg) : Df P w K mg base 1 "_law_by_age" P__law_by_age s__law_by_age sp__law_by_age := by
  refine A.df fun f fd F => F.ok sc__law_by_age (fun vs H Q E h => ?_) (fun cdv AA outer s H vs Q E hr h => ?_)
  · obtain ⟨_, a, _, _, rfl, _⟩ := h
    rfl
  · obtain ⟨BB, a, ts, gs, rfl, hG, hF, hl, q⟩ := h
    have nd := sc__law_by_age.nd
    refine ⟨_, (pss_cons (ps_set (i := 1) nd rfl (.inl rfl) (pe_lst pa_nil))
    (pss_cons (ps_for PassesOwn.never rfl (pi_list (pe_callBK (cr_sortedPK (b := true) rfl) (by rfl) B.sorted (by decide +kernel) (pa_cons (pv 0) pa_nil) (pk_cons pe_bl pk_nil))) (pg_tup (by rfl) (pgs_cons (pg_name (i := 2) nd rfl (.inl rfl)) (pgs_cons (pg_name (i := 3) nd rfl (.inr rfl)) pgs_nil))) (pss_cons (ps_setLc (i := 4) (own := [("room", 5)]) rfl nd rfl rfl (sw_true rfl rfl rfl (by decide +kernel)) (pi_list (pv 1)) (blkOk_by (N := N__law_by_age) (sc := defScope s__law_by_age) (by decide +kernel)) (fun _ _ _ _ _ => (pg_name (i := 5) nd rfl (.inl rfl))) (fun _ _ _ _ _ => (pts_one (pt_cmpR op_le (pe_callB (lenK K) (by rfl) B.len PySem.boot_len (pa_cons (pv 5) pa_nil)) (pv 3) (nomark _)))) (fun _ _ _ _ _ => (pv 5))) (pss_cons (ps_if (pt_cmpR (op_eqD hr.units) (pv 4) (pe_lst pa_nil) (nomark _)) (pss_cons (ps_set (i := 4) nd rfl (.inl rfl) (pe_lst (pa_cons (pe_lst pa_nil) pa_nil))) (pss_one (ps_expr (pe_bm PySem.F.plainAttrs_list PySem.F.slot_list_append PySem.F.type_list_append mt_append (pv 1) (pa_cons (pe_ix ix_list (pv 4) pe_int (fun _ _ => rfl)) pa_nil))))) pss_nil) (pss_one (ps_expr (pe_bm PySem.F.plainAttrs_list PySem.F.slot_list_append PySem.F.type_list_append mt_append (pe_ix ix_list (pv 4) pe_int (fun _ _ => rfl)) (pa_cons (pv 2) pa_nil)))))))
    (pss_one (ps_ret (pv 1))))), ?_⟩
    -- found = []
    refine ⟨Nat.zero_le _, fun o no => ?_⟩
    have s1 : Same H (upd H o (.lst [])) := same_new no
    have hG1 := hG.same s1
    -- sorted(lodgers, reverse=True)
    refine ⟨.ref a, rfl, a, _, prOf (upd H o (.lst [])), rfl, rfl, hG1.seq, hG1.mem, fun ys p2 hs hb np2 => ?_⟩
    have hys := sorted_down hF hG1.prs hs hb
    have hmem : ∀ x ∈ ys.reverse, ∃ t, x = V.ref t ∧ upd H o (.lst []) t = some (.tup [.int (prOf (upd H o (.lst [])) x).1, .int (prOf (upd H o (.lst [])) x).2]) := fun x m => hG1.mem x (hb.mem_iff.mp (List.mem_reverse.mp m))
    refine ⟨p2, rfl, ⟨_, SqL.of upd_same⟩, ?_⟩
    rw [if_pos rfl]
    have s2 : Same (upd H o (.lst [])) (upd (upd H o (.lst [])) p2 (.lst ys.reverse)) := same_new np2
    have eo : upd (upd H o (.lst [])) p2 (.lst ys.reverse) o = some (.lst []) := s2 _ _ upd_same
    have ep : upd (upd H o (.lst [])) p2 (.lst ys.reverse) p2 = some (.lst ys.reverse) := upd_same
    have hpo : p2 ≠ o := no_of upd_same np2
    have sH := s1.trans s2
    have hmem2 : ∀ x ∈ ys.reverse, ∃ t, x = V.ref t ∧ t ≠ o ∧ upd (upd H o (.lst [])) p2 (.lst ys.reverse) t = some (.tup [.int (prOf (upd H o (.lst [])) x).1, .int (prOf (upd H o (.lst [])) x).2]) := fun x m => by
      obtain ⟨t, e1, e2⟩ := hmem x m
      exact ⟨t, e1, (ne_of e2 upd_same (by simp)), s2 _ _ e2⟩
    revert sH eo ep hmem2
    generalize upd (upd H o (.lst [])) p2 (.lst ys.reverse) = Hs
    intro eo ep sH hmem2
    have hlen : ys.reverse.length = (byAge gs).length := by rw [← hys, List.length_map]
    refine for_it (walk_list (xs := ys.reverse)) (fun i σ H2 => ∃ us y2 y3 y4, σ = [some (.ref a), some (.ref o), y2, y3, y4, none] ∧ Kp (fun b => b ≠ o) Hs H2 ∧ RmsAt H2 (fun b => b = o ∨ Hs b = none) o us (settleL ((byAge gs).take i)))
      ⟨[], none, none, none, rfl, Kp.refl, RmsAt.nil eo (.inl rfl)⟩ (fun i σ H2 _ hW => ?_) (fun i x σ H2 H3 hi hW hY => ?_) (fun σ H2 hW => ?_)
    · obtain ⟨_, _, _, _, _, kp, _⟩ := hW
      exact SqL.of (kp _ _ hpo ep)
    · obtain ⟨us, y2, y3, y4, rfl, kp, hR⟩ := hW
      obtain ⟨rfl, hx⟩ := hY
      obtain ⟨t, rfl, hto, et⟩ := hmem2 x (List.mem_of_getElem? hx)
      have eg : (byAge gs)[i]? = some (prOf (upd H o (.lst [])) (.ref t)) := by
        rw [← hys, List.getElem?_map, hx]
        rfl
      revert eg et
      generalize prOf (upd H o (.lst [])) (.ref t) = g
      intro et eg
      have hlt : (settleL ((byAge gs).take i)).length ≤ 1000 := by
        refine Nat.le_trans (settleL_len _) ?_
        rw [List.length_take, byAge_length]
        omega
      have hE := settleL_take eg
      have hrm : ∀ r ∈ settleL ((byAge gs).take i), r.length ≤ 1000 := fun r hr => by
        refine Nat.le_trans (settleL_room hr) ?_
        rw [List.length_take, byAge_length]
        omega
      revert hlt hE hR hrm
      generalize settleL ((byAge gs).take i) = rs
      intro hR hlt hE hrm
      refine ⟨t, _, rfl, SqT.of (kp _ _ hto et), rfl, .int g.1, _, rfl, .int g.2, _, rfl, rfl, ?_⟩
      -- fine
      refine ⟨.ref o, rfl, o, rfl, ⟨_, hR.seq⟩, fun D nD => ?_⟩
      have nDo : o ≠ D := ne_of_none hR.top nD
      refine lc_it (walk_list (xs := us.map V.ref)) (fun k H4 => Same H3 H4 ∧ ∃ us' rs', H4 D = some (.lst (us'.map V.ref)) ∧ us'.length = rs'.length ∧ us'.length ≤ k ∧ us'.Sublist (us.take k) ∧ (∀ (j : Nat) (t : Addr) (r : List Int), us'[j]? = some t → rs'[j]? = some r → H3 t = some (.lst (r.map V.int))) ∧
          ((us' = [] ∧ ∀ (j : Nat) (r : List Int), j < k → rs[j]? = some r → g.2 < (r.length : Int)) ∨ ∃ u, us'[0]? = some u ∧ us[firstB rs g.2]? = some u ∧ firstB rs g.2 < rs.length))
        ⟨same_new nD, [], [], upd_same, rfl, Nat.le_refl _, List.nil_sublist _, fun j t r e _ => by simp at e, .inl ⟨rfl, fun j r h => absurd h (Nat.not_lt_zero _)⟩⟩ (fun k H4 _ hW => (hR.same hW.1).seq) (fun k x H4 H5 hk hW hY => ?_) (fun H4 hW => ?_)
      · obtain ⟨sm, us', rs', eD, l1, l2, sub, ats, alt⟩ := hW
        obtain ⟨rfl, hx'⟩ := hY
        obtain ⟨v, r, rfl, ev, er, _⟩ := hR.get hx'
        have erv := hR.at' k v r ev er
        refine ⟨rfl, .ref v, rfl, v, _, rfl, .inl (SqL.of (sm _ _ erv)), .int g.2, rfl, _, _, rfl, rfl, _, rfl, ?_⟩
        by_cases hle : ((r.map V.int).length : Int) ≤ g.2
        · refine ifYes (decide_eq_true hle) ⟨.ref v, rfl, _, eD, ils ?_, Same.mut sm nD, us' ++ [v], rs' ++ [r], ?_, ?_, ?_, ?_, fun j t' r' e1 e2 => ?_, ?_⟩
          · rw [List.length_map]
            have := at_lt er
            omega
          · rw [upd_same, List.map_append]
            rfl
          · rw [List.length_append, List.length_append, l1]
            rfl
          · rw [List.length_append]
            exact Nat.succ_le_succ l2
          · rw [take_snoc ev]
            exact sub.append (List.Sublist.refl _)
          · by_cases hj : j < us'.length
            · rw [List.getElem?_append_left hj] at e1
              rw [List.getElem?_append_left (by omega)] at e2
              exact ats j t' r' e1 e2
            · have h1 := at_lt e1
              rw [List.length_append, List.length_singleton] at h1
              have : j = us'.length := by omega
              subst this
              rw [List.getElem?_append_right (Nat.le_refl _), Nat.sub_self] at e1
              rw [l1, List.getElem?_append_right (Nat.le_refl _), Nat.sub_self] at e2
              obtain rfl : v = t' := Option.some.inj e1
              obtain rfl : r = r' := Option.some.inj e2
              exact erv
          · rcases alt with ⟨rfl, hb⟩ | ⟨u, hu1, hu2, hu3⟩
            · have hk' : firstB rs g.2 = k := firstB_is rs g.2 k (Nat.le_of_lt (at_lt er)) hb fun r' er' => by
                rw [Option.some.inj (er'.symm.trans er)]
                rw [List.length_map] at hle
                exact hle
              exact .inr ⟨v, rfl, by rw [hk']; exact ev, by rw [hk']; exact at_lt er⟩
            · refine .inr ⟨u, ?_, hu2, hu3⟩
              rw [List.getElem?_append_left (at_lt hu1)]
              exact hu1
        · refine ifNo (decide_eq_false hle) ⟨sm, us', rs', eD, l1, Nat.le_succ_of_le l2, ?_, ats, ?_⟩
          · rw [take_snoc ev]
            exact sub.trans (List.sublist_append_left _ _)
          · rcases alt with ⟨rfl, hb⟩ | h
            · refine .inl ⟨rfl, fun j r' hj er' => ?_⟩
              by_cases h : j < k
              · exact hb j r' h er'
              · have : j = k := by omega
                subst this
                rw [Option.some.inj (er'.symm.trans er)]
                rw [List.length_map] at hle
                omega
            · exact .inr h
      · obtain ⟨sm, us', rs', eD, l1, l2, sub, ats, alt⟩ := hW
        have hR4 := hR.same sm
        have k4 : Kp (fun b => b ≠ o) Hs H4 := kp.trans (.of sm)
        have subl : us'.Sublist us := sub.trans (List.take_sublist _ _)
        have Dus : D ∉ us := fun m => by
          obtain ⟨y, ey⟩ := hR.lives m
          rw [nD] at ey
          cases ey
        have F4 : RmsAt H4 (fun _ => True) D us' rs' := ⟨eD, trivial, subl.nodup hR.nd, fun m => Dus (subl.subset m), l1, fun j t r e1 e2 => sm _ _ (ats j t r e1 e2), fun _ _ => trivial⟩
        have fin : ∀ {H5 : Hp} {y2 y3 y4 : Option V} {us5 : List Addr} {rs5 : List (List Int)} {t5 : Addr} {r : List Int}, Kp (fun b => b ≠ o) Hs H5 → RmsAt H5 (fun b => b = o ∨ Hs b = none) o us5 rs5 → us5[firstB rs g.2]? = some t5 → place rs g.1 g.2 = rs5.set (firstB rs g.2) (r ++ [g.1]) →
            ∃ us z2 z3 z4, [some (V.ref a), some (.ref o), y2, y3, y4, none] = [some (V.ref a), some (.ref o), z2, z3, z4, none] ∧ Kp (fun b => b ≠ o) Hs (upd H5 t5 (.lst (r.map V.int ++ [.int g.1]))) ∧ RmsAt (upd H5 t5 (.lst (r.map V.int ++ [.int g.1]))) (fun b => b = o ∨ Hs b = none) o us (settleL ((byAge gs).take (i + 1))) := by
          intro H5 y2 y3 y4 us5 rs5 t5 r k5 hR5 et ep
          refine ⟨us5, _, _, _, rfl, ?_, ?_⟩
          · rcases hR5.b t5 (List.mem_of_getElem? et) with z | z
            · exact absurd (z ▸ List.mem_of_getElem? et) hR5.no
            · exact k5.mutF z
          · have z := hR5.set et (r ++ [g.1])
            rw [List.map_append] at z
            rw [hE, ep]
            exact z
        dsimp only [gName]
        refine ⟨.ref D, rfl, Nat.zero_le _, fun z nz => ?_⟩
        have sz := same_new (o := .lst []) nz
        refine ⟨dRows rs', dInts [], (F4.same sz).dp, Dp.ints (ns := []) upd_same, (Oks.rows _).shaped, (Oks.ints _).shaped, _, rfl, ?_⟩
        have ee : PyData.eqv (dRows rs') (dInts []) = rs'.isEmpty := by cases rs' <;> rfl
        rw [ee]
        have hR5 := hR4.same sz
        have k5 := k4.trans (Kp.of (B := fun b => b ≠ o) sz)
        have eD5 := sz _ _ eD
        have sm5 := sm.trans sz
        revert hR5 k5 eD5 sm5
        generalize upd H4 z (.lst []) = H5
        intro hR5 k5 eD5 sm5
        rcases alt with ⟨rfl, hb⟩ | ⟨u, hu1, hu2, hu3⟩
        · have hr0 : rs' = [] := List.eq_nil_of_length_eq_zero (by rw [← l1]; rfl)
          subst hr0
          have hfb : firstB rs g.2 = rs.length := firstB_is rs g.2 rs.length (Nat.le_refl _) (fun j r hj er => hb j r (by rw [List.length_map, hR.len]; exact hj) er) fun r er => absurd (at_lt er) (Nat.lt_irrefl _)
          refine iteT ⟨Nat.zero_le _, fun e1 n1 => ⟨(by show 1 ≤ sizeLine; decide), fun e2 n2 => ?_⟩⟩
          have sa := (same_new (o := .lst []) n1).trans (same_new (o := .lst [.ref e1]) n2)
          have ea1 : upd (upd H5 e1 (.lst [])) e2 (.lst [.ref e1]) e1 = some (.lst []) := (same_new n2) _ _ upd_same
          have ea2 : upd (upd H5 e1 (.lst [])) e2 (.lst [.ref e1]) e2 = some (.lst [.ref e1]) := upd_same
          have hR6 := hR5.same sa
          have k6 := k5.trans (Kp.of (B := fun b => b ≠ o) sa)
          have n1s : Hs e1 = none := k5.none (no_of hR5.top n1) n1
          have e1o : e1 ≠ o := no_of hR5.top n1
          have e2o : e2 ≠ o := no_of hR5.top ((same_new (o := .lst []) n1).free n2)
          have e1us : e1 ∉ us := fun m => by
            obtain ⟨y, ey⟩ := hR5.lives m
            rw [n1] at ey
            cases ey
          revert hR6 k6 ea1 ea2
          generalize upd (upd H5 e1 (.lst [])) e2 (.lst [.ref e1]) = H6
          intro ea1 ea2 hR6 k6
          dsimp only [gName]
          refine ⟨.ref o, rfl, .inl ⟨rfl, _, hR6.seq⟩, .ref e2, rfl, e2, _, 0, .ref e1, rfl, rfl, SqL.of ea2, atI_nat (j := 0) rfl, o, _, _, rfl, rfl, hR6.top, ils (by rw [List.length_map, hR6.len]; omega), ?_⟩
          have hR7 := hR6.addN (u := e1) (r := []) ea1 (.inr n1s) e1us e1o
          have et7 : (us ++ [e1])[firstB rs g.2]? = some e1 := by
            rw [hfb, ← hR.len, List.getElem?_append_right (Nat.le_refl _), Nat.sub_self]
            rfl
          refine ⟨.ref e2, rfl, e2, _, 0, .ref e1, rfl, rfl, SqL.of (by rw [upd_ne e2o]; exact ea2), atI_nat (j := 0) rfl, .inl ⟨rfl, _, SqL.of (by rw [upd_ne e1o]; exact ea1)⟩, .int g.1, rfl, e1, _, _, rfl, rfl, (by rw [upd_ne e1o]; exact ea1), ils (Nat.zero_le _), ?_⟩
          refine fin (r := []) (k6.mut fun z => z rfl) hR7 et7 ?_
          rw [place_new _ _ _ hfb, hfb, List.set_append_right _ _ (Nat.le_refl _), Nat.sub_self]
          rfl
        · obtain ⟨us2, rfl⟩ : ∃ us2, us' = u :: us2 := by
            cases us' with
            | nil => cases hu1
            | cons a b => exact ⟨b, by rw [show a = u from Option.some.inj hu1]⟩
          have en : rs'.isEmpty = false := by
            cases rs' with
            | nil => cases l1
            | cons a b => rfl
          rw [en]
          obtain ⟨r, er⟩ := at_some hu3
          have eu := hR5.at' _ u r hu2 er
          refine iteF ⟨.ref D, rfl, D, _, 0, .ref u, rfl, rfl, SqL.of eD5, atI_nat (j := 0) rfl, .inl ⟨rfl, _, SqL.of eu⟩, .int g.1, rfl, u, _, _, rfl, rfl, eu, ils (by rw [List.length_map]; exact Nat.le_trans (hrm r (List.mem_of_getElem? er)) (by decide)), ?_⟩
          exact fin k5 hR5 hu2 (place_at _ _ _ _ er)
    · obtain ⟨us, y2, y3, y4, rfl, kp, hR⟩ := hW
      rw [hlen, take_full] at hR
      refine ⟨.ref o, rfl, q H2 o us ?_ (hR.newTop (fun _ _ _ e => e) fun b hb => ?_)⟩
      · intro b x hb
        exact kp _ _ (ne_of_none hb no) (sH _ _ hb)
      · rcases hb with rfl | hb
        · exact no
        · rcases hR.b b hb with rfl | z
          · exact no
          · exact sH.free z
end
end El
namespace El
open PySem PySem.Spec PyProof.Rows L2
theorem meth_one {K : PySem.W.Frag} {C : Addr} {m : Str} {f f' : Addr} (M : Meth K C m f) (M' : Meth K C m f') : f = f' := Value.ref.inj (Option.some.inj (Option.some.inj (M.at_.symm.trans M'.at_)))
def sp_Inn__check_there_b (C CG : Addr) : Sp := fun vs H _ E => ∃ (B : Addr → Prop) (p d o : Addr) (ts : List Addr) (gs : List (Int × Int)) (rs : List (List Int)) (a : Int), vs = [.ref p, .int a] ∧ InnAt C H B p d o ts gs rs ∧ a ∉ gs.map (·.1) ∧ a.natAbs < 10 ^ 200 ∧
  ∀ H' dx, Same H H' → H' dx = some (.xd [(("what" : Str), .int a)]) → E (.ref CG) (some dx) H'
def sp_Inn__check_there_x (C CG : Addr) : Sp := fun vs H Q E => sp_Inn__check_there C vs H Q E0 ∨ sp_Inn__check_there_b C CG vs H Q E
section
variable {P : Program} {w : World} {K : PySem.W.Frag} {mg : Str → Option Value} {base : Heap}
theorem okb_Inn__check_there {C CG : Addr} (A : Ma K C "_check_there" "Inn._check_there" P_Inn__check_there s_Inn__check_there) (T : InnT K mg C) (E_NoGuest : OwnW P w K mg base "NoGuest" CG) : MfX P w K mg base 3 C "_check_there" "Inn._check_there" P_Inn__check_there s_Inn__check_there (sp_Inn__check_there_b C CG) := by
  refine A.mfx fun f fd F => F.okX sc_Inn__check_there (fun vs H Q E h => ?_) (fun cdv AA outer s H vs Q E hr h => ?_)
  · obtain ⟨_, _, _, _, _, _, _, _, rfl, _⟩ := h
    rfl
  · obtain ⟨BB, p, d, o, ts, gs, rs, a, rfl, hI, ha, hz, q⟩ := h
    have nd := sc_Inn__check_there.nd
    refine ⟨_, (pss_one (ps_if (pt_cmp (pc_dnotin (hu_of hr) (pv 1) (pe_fld (pv 0) rfl))) (pss_one (ps_raiseW E_NoGuest (hr.mono (by decide)) rfl (takes_of rfl rfl rfl rfl) (pa_cons (pv 1) pa_nil) (by rfl))) pss_nil)), ?_⟩
    obtain ⟨dx, hp⟩ := hI.ob
    refine ⟨_, rfl, _, rfl, p, C, dx, _, _, rfl, hp, T.cl, T.nP, iflds_p _ _, d, _, rfl, DGet.k (k := Sum.inl a) hI.dc, _, rfl, ?_⟩
    rw [pks_none ha]
    exact iteT ⟨.int a, rfl, _, rfl, .inl (.inl ⟨a, rfl, hz⟩), fun d' nd' => q _ d' (same_new nd') upd_same⟩
theorem okx_Inn__check_there {C CG : Addr} (A : Ma K C "_check_there" "Inn._check_there" P_Inn__check_there s_Inn__check_there) (T : InnT K mg C) (E_NoGuest : OwnW P w K mg base "NoGuest" CG) (M__check_there : Mf P w K mg base 1 C "_check_there" "Inn._check_there" P_Inn__check_there s_Inn__check_there (sp_Inn__check_there C)) :
    MfX P w K mg base 3 C "_check_there" "Inn._check_there" P_Inn__check_there s_Inn__check_there (sp_Inn__check_there_x C CG) := M__check_there.orx (okb_Inn__check_there A T E_NoGuest) (fun _ _ => meth_one) (by decide)
end
end El
namespace El
open PySem PySem.Spec PyProof.Rows L2
/-- nobody of that age is there -/
def sp_gone_b (C CG : Addr) : Sp := fun vs H _ E => ∃ (B : Addr → Prop) (p d o : Addr) (ts : List Addr) (gs : List (Int × Int)) (rs : List (List Int)) (a : Int), vs = [.ref p, .int a] ∧ InnAt C H B p d o ts gs rs ∧ a ∉ gs.map (·.1) ∧ a.natAbs < 10 ^ 200 ∧
  ∀ H' dx, Same H H' → H' dx = some (.xd [(("what" : Str), .int a)]) → E (.ref CG) (some dx) H'
def sp_Inn_where_x (C CG : Addr) : Sp := fun vs H Q E => sp_Inn_where C vs H Q E0 ∨ sp_gone_b C CG vs H Q E
def sp_Inn_go_x (C CG : Addr) : Sp := fun vs H Q E => sp_Inn_go C vs H Q E0 ∨ sp_gone_b C CG vs H Q E
/-- nobody of that age is there, or patience is below zero -/
def sp_Inn_turn_b (C CG : Addr) : Sp := fun vs H _ E => ∃ (B : Addr → Prop) (p d o : Addr) (ts : List Addr) (gs : List (Int × Int)) (rs : List (List Int)) (a y : Int), vs = [.ref p, .int a, .int y] ∧ InnAt C H B p d o ts gs rs ∧ (gs.map (·.1)).Nodup ∧ a.natAbs < 10 ^ 200 ∧ y.natAbs < 10 ^ 200 ∧
  ((a ∉ gs.map (·.1) ∧ ∀ H' dx, Same H H' → H' dx = some (.xd [(("what" : Str), .int a)]) → E (.ref CG) (some dx) H') ∨
    (a ∈ gs.map (·.1) ∧ y < 0 ∧ ∀ H' dx t, Same H H' → H' dx = some (.xd [(("what" : Str), .ref t)]) → H' t = some (.tup [.int a, .int y]) → E (.ref CG) (some dx) H'))
def sp_Inn_come_b (C CG : Addr) : Sp := fun vs H _ E => ∃ (B : Addr → Prop) (p d o : Addr) (ts : List Addr) (gs : List (Int × Int)) (rs : List (List Int)) (a y : Int), vs = [.ref p, .int a, .int y] ∧ InnAt C H B p d o ts gs rs ∧ (gs.map (·.1)).Nodup ∧ a.natAbs < 10 ^ 200 ∧ y.natAbs < 10 ^ 200 ∧ (y < 0 ∨ a ∈ gs.map (·.1)) ∧
  ∀ H' dx t, Same H H' → H' dx = some (.xd [(("what" : Str), .ref t)]) → H' t = some (.tup [.int a, .int y]) → E (.ref CG) (some dx) H'
def sp_Inn_come_x (C CG : Addr) : Sp := fun vs H Q E => sp_Inn_come C vs H Q E0 ∨ sp_Inn_come_b C CG vs H Q E
section
variable {P : Program} {w : World} {K : PySem.W.Frag} {mg : Str → Option Value} {base : Heap}
theorem okb_Inn_where {C CG : Addr} (A : Ma K C "where" "Inn.where" P_Inn_where s_Inn_where) (B : Bi mg) (T : InnT K mg C) (XM__check_there : MfX P w K mg base 3 C "_check_there" "Inn._check_there" P_Inn__check_there s_Inn__check_there (sp_Inn__check_there_x C CG)) : MfX P w K mg base 4 C "where" "Inn.where" P_Inn_where s_Inn_where (sp_gone_b C CG) := by
  refine A.mfx fun f fd F => F.okX sc_Inn_where (fun vs H Q E h => ?_) (fun cdv AA outer s H vs Q E hr h => ?_)
  · obtain ⟨_, _, _, _, _, _, _, _, rfl, _⟩ := h
    rfl
  · obtain ⟨BB, p, d, o, ts, gs, rs, a, rfl, hI, ha, hz, q⟩ := h
    have nd := sc_Inn_where.nd
    refine ⟨_, (pss_cons (ps_expr (pe_mfS XM__check_there T.cl (takes_of rfl rfl rfl rfl) (hr.mono (by decide)) (pv 0) (pa_cons (pv 1) pa_nil)))
    (pss_one (ps_ret (pe_bm PySem.F.plainAttrs_list PySem.F.slot_list_index PySem.F.type_list_index (mtIndexK K) (pe_lc (own := [("room", 2)]) (tt := tYes) rfl nd (pi_list (pe_fld (pv 0) rfl)) (blkOk_by (N := N_Inn_where) (sc := defScope s_Inn_where) (by decide +kernel)) (fun _ _ _ _ _ => (pg_name (i := 2) nd rfl (.inl rfl))) (fun _ _ _ _ _ => pts_nil) (fun _ _ _ _ _ => (pe_cmpR (inK K) (pv 1) (pv 2) (by rfl)))) (pa_cons pe_bl pa_nil))))), ?_⟩
    obtain ⟨dx, hp⟩ := hI.ob
    exact ⟨.ref p, rfl, p, dx, _, rfl, hp, iflds_no _ _ (by decide +kernel) (by decide +kernel), .int a, rfl, .inr ⟨BB, p, d, o, ts, gs, rs, a, rfl, hI, ha, hz, q⟩⟩
theorem okb_Inn_go {C CG : Addr} (A : Ma K C "go" "Inn.go" P_Inn_go s_Inn_go) (B : Bi mg) (T : InnT K mg C) (XM_where : MfX P w K mg base 4 C "where" "Inn.where" P_Inn_where s_Inn_where (sp_Inn_where_x C CG))
    (M__eldest_back : Mf P w K mg base 2 C "_eldest_back" "Inn._eldest_back" P_Inn__eldest_back s_Inn__eldest_back (sp_Inn__eldest_back C)) (M__enter : Mf P w K mg base 1 C "_enter" "Inn._enter" P_Inn__enter s_Inn__enter (sp_Inn__enter C)) : MfX P w K mg base 5 C "go" "Inn.go" P_Inn_go s_Inn_go (sp_gone_b C CG) := by
  refine A.mfx fun f fd F => F.okX sc_Inn_go (fun vs H Q E h => ?_) (fun cdv AA outer s H vs Q E hr h => ?_)
  · obtain ⟨_, _, _, _, _, _, _, _, rfl, _⟩ := h
    rfl
  · obtain ⟨BB, p, d, o, ts, gs, rs, a, rfl, hI, ha, hz, q⟩ := h
    have nd := sc_Inn_go.nd
    refine ⟨_, (pss_cons (ps_set (i := 2) nd rfl (.inl rfl) (pe_mfS XM_where T.cl (takes_of rfl rfl rfl rfl) (hr.mono (by decide)) (pv 0) (pa_cons (pv 1) pa_nil)))
    (pss_cons (ps_ddel (pe_fld (pv 0) rfl) (pv 1))
    (pss_cons (ps_expr (pe_bm PySem.F.plainAttrs_list PySem.F.slot_list_remove PySem.F.type_list_remove mt_remove (pe_ix ix_list (pe_fld (pv 0) rfl) (pv 2) (fun _ _ => rfl)) (pa_cons (pv 1) pa_nil)))
    (pss_cons (ps_set (i := 3) nd rfl (.inl rfl) (pe_lst pa_nil))
    (pss_cons (ps_set (i := 4) nd rfl (.inl rfl) (pe_mf M__eldest_back T.cl (hr.mono (by decide)) (pv 0) (pa_cons (pv 2) pa_nil)))
    (pss_cons (ps_while (passes_of rfl) (pt_cmpR op_notN (pv 4) pe_non (nomark _)) (pss_cons (ps_set (i := 5) nd rfl (.inl rfl) (pe_mfS XM_where T.cl (takes_of rfl rfl rfl rfl) (hr.mono (by decide)) (pv 0) (pa_cons (pv 4) pa_nil))) (pss_cons (ps_expr (pe_bm PySem.F.plainAttrs_list PySem.F.slot_list_remove PySem.F.type_list_remove mt_remove (pe_ix ix_list (pe_fld (pv 0) rfl) (pv 5) (fun _ _ => rfl)) (pa_cons (pv 4) pa_nil))) (pss_cons (ps_expr (pe_mf M__enter T.cl (hr.mono (by decide)) (pv 0) (pa_cons (pv 4) (pa_cons (pv 2) pa_nil)))) (pss_cons (ps_expr (pe_bm PySem.F.plainAttrs_list PySem.F.slot_list_append PySem.F.type_list_append mt_append (pv 3) (pa_cons (pe_tup (pa_cons (pv 4) (pa_cons (pv 2) pa_nil))) pa_nil))) (pss_cons (ps_set (i := 2) nd rfl (.inl rfl) (pv 5)) (pss_one (ps_set (i := 4) nd rfl (.inl rfl) (pe_mf M__eldest_back T.cl (hr.mono (by decide)) (pv 0) (pa_cons (pv 2) pa_nil))))))))))
    (pss_cons (ps_if (pt_not (pt_truth (pe_ix ix_list (pe_fld (pv 0) rfl) (pv 2) (fun _ _ => rfl)) (by intro _; rfl))) (pss_one (ps_expr (pe_bm0 PySem.F.plainAttrs_list PySem.F.slot_list_pop PySem.F.type_list_pop mt_pop (pe_fld (pv 0) rfl)))) pss_nil)
    (pss_one (ps_ret (pv 3)))))))))), ?_⟩
    obtain ⟨dx, hp⟩ := hI.ob
    exact ⟨.ref p, rfl, p, dx, _, rfl, hp, iflds_no _ _ (by decide +kernel) (by decide +kernel), .int a, rfl, .inr ⟨BB, p, d, o, ts, gs, rs, a, rfl, hI, ha, hz, q⟩⟩
theorem okb_Inn_come {C CG : Addr} (A : Ma K C "come" "Inn.come" P_Inn_come s_Inn_come) (B : Bi mg) (T : InnT K mg C) (XD_check_newcomer : DfX P w K mg base 3 "check_newcomer" P_check_newcomer s_check_newcomer (sp_check_newcomer_b CG))
    (D_eldest_upset : Df P w K mg base 1 "eldest_upset" P_eldest_upset s_eldest_upset sp_eldest_upset) (M__enter : Mf P w K mg base 1 C "_enter" "Inn._enter" P_Inn__enter s_Inn__enter (sp_Inn__enter C)) : MfX P w K mg base 4 C "come" "Inn.come" P_Inn_come s_Inn_come (sp_Inn_come_b C CG) := by
  refine A.mfx fun f fd F => F.okX sc_Inn_come (fun vs H Q E h => ?_) (fun cdv AA outer s H vs Q E hr h => ?_)
  · obtain ⟨_, _, _, _, _, _, _, _, _, rfl, _⟩ := h
    rfl
  · obtain ⟨BB, p, d, o, ts, gs, rs, a, y, rfl, hI, hnd, ha, hy, hb, q⟩ := h
    have nd := sc_Inn_come.nd
    refine ⟨_, (pss_cons (ps_expr (pe_dfS XD_check_newcomer (takes_of rfl rfl rfl rfl) (hr.mono (by decide)) (by rfl) (pa_cons (pe_fld (pv 0) rfl) (pa_cons (pv 1) (pa_cons (pv 2) pa_nil)))))
    (pss_cons (ps_dput (hu_of hr) (pe_fld (pv 0) rfl) (pv 1) (pv 2) rfl)
    (pss_cons (ps_set (i := 3) nd rfl (.inl rfl) (pe_lst pa_nil))
    (pss_cons (ps_set (i := 4) nd rfl (.inl rfl) (pv 1))
    (pss_cons (ps_while (passes_of rfl) (pt_cmpR op_notN (pv 4) pe_non (nomark _)) (pss_cons (ps_set (i := 5) nd rfl (.inl rfl) (pe_callB call_len_seq (by rfl) B.len PySem.boot_len (pa_cons (pv 3) pa_nil))) (pss_cons (ps_expr (pe_mf M__enter T.cl (hr.mono (by decide)) (pv 0) (pa_cons (pv 4) (pa_cons (pv 5) pa_nil)))) (pss_cons (ps_expr (pe_bm PySem.F.plainAttrs_list PySem.F.slot_list_append PySem.F.type_list_append mt_append (pv 3) (pa_cons (pe_tup (pa_cons (pv 4) (pa_cons (pv 5) pa_nil))) pa_nil))) (pss_cons (ps_set (i := 4) nd rfl (.inl rfl) (pe_df D_eldest_upset (hr.mono (by decide)) (by rfl) (pa_cons (pe_fld (pv 0) rfl) (pa_cons (pe_ix ix_list (pe_fld (pv 0) rfl) (pv 5) (fun _ _ => rfl)) pa_nil)))) (pss_one (ps_if (pt_cmpR op_notN (pv 4) pe_non (nomark _)) (pss_one (ps_expr (pe_bm PySem.F.plainAttrs_list PySem.F.slot_list_remove PySem.F.type_list_remove mt_remove (pe_ix ix_list (pe_fld (pv 0) rfl) (pv 5) (fun _ _ => rfl)) (pa_cons (pv 4) pa_nil)))) pss_nil)))))))
    (pss_one (ps_ret (pv 3)))))))), ?_⟩
    obtain ⟨dx, hp⟩ := hI.ob
    exact ⟨_, rfl, p, C, dx, _, _, rfl, hp, T.cl, T.nP, iflds_p _ _, .int a, rfl, .int y, rfl, d, gs, a, y, rfl, hI.dc, hb, hnd, ha, hy, q⟩
end
end El
namespace El
open PySem PySem.Spec PyProof.Rows L2
def sp_Inn_turn_x (C CG : Addr) : Sp := fun vs H Q E => sp_Inn_turn C vs H Q E0 ∨ sp_Inn_turn_b C CG vs H Q E
section
variable {P : Program} {w : World} {K : PySem.W.Frag} {mg : Str → Option Value} {base : Heap}
theorem okb_Inn_turn {C CG : Addr} (A : Ma K C "turn" "Inn.turn" P_Inn_turn s_Inn_turn) (B : Bi mg) (T : InnT K mg C) (E_NoGuest : OwnW P w K mg base "NoGuest" CG) (XM__check_there : MfX P w K mg base 3 C "_check_there" "Inn._check_there" P_Inn__check_there s_Inn__check_there (sp_Inn__check_there_x C CG))
    (M_go : Mf P w K mg base 3 C "go" "Inn.go" P_Inn_go s_Inn_go (sp_Inn_go C)) (M_come : Mf P w K mg base 2 C "come" "Inn.come" P_Inn_come s_Inn_come (sp_Inn_come C)) : MfX P w K mg base 4 C "turn" "Inn.turn" P_Inn_turn s_Inn_turn (sp_Inn_turn_b C CG) := by
  refine A.mfx fun f fd F => F.okX sc_Inn_turn (fun vs H Q E h => ?_) (fun cdv AA outer s H vs Q E hr h => ?_)
  · obtain ⟨_, _, _, _, _, _, _, _, _, rfl, _⟩ := h
    rfl
  · obtain ⟨BB, p, d, o, ts, gs, rs, a, y, rfl, hI, hnd, ha, hy, q⟩ := h
    have nd := sc_Inn_turn.nd
    refine ⟨_, (pss_cons (ps_expr (pe_mfS XM__check_there T.cl (takes_of rfl rfl rfl rfl) (hr.mono (by decide)) (pv 0) (pa_cons (pv 1) pa_nil)))
    (pss_cons (ps_if (pt_cmpR op_lt (pv 2) pe_int (nomark _)) (pss_one (ps_raiseW E_NoGuest (hr.mono (by decide)) rfl (takes_of rfl rfl rfl rfl) (pa_cons (pe_tup (pa_cons (pv 1) (pa_cons (pv 2) pa_nil))) pa_nil) (by rfl))) pss_nil)
    (pss_cons (ps_set (i := 3) nd rfl (.inl rfl) (pe_mf M_go T.cl (hr.mono (by decide)) (pv 0) (pa_cons (pv 1) pa_nil)))
    (pss_one (ps_ret (pe_op op_cat (pv 3) (pe_mf M_come T.cl (hr.mono (by decide)) (pv 0) (pa_cons (pv 1) (pa_cons (pv 2) pa_nil))))))))), ?_⟩
    obtain ⟨dx, hp⟩ := hI.ob
    refine ⟨.ref p, rfl, p, dx, _, rfl, hp, iflds_no _ _ (by decide +kernel) (by decide +kernel), .int a, rfl, ?_⟩
    rcases q with ⟨hout, q⟩ | ⟨hin, hneg, q⟩
    · exact .inr ⟨BB, p, d, o, ts, gs, rs, a, rfl, hI, hout, ha, q⟩
    · refine .inl ⟨BB, p, d, o, ts, gs, rs, a, rfl, hI, hnd, hin, ⟨.int y, rfl, _, _, rfl, rfl, _, rfl, ?_⟩⟩
      rw [decide_eq_true hneg]
      exact iteT ⟨.int a, rfl, .int y, rfl, (by show 2 ≤ sizeLine; decide), fun t nt => ⟨.ref t, rfl, .inr (.inr ⟨t, a, y, rfl, upd_same, ha, hy⟩), fun d' nd' => q _ d' t ((same_new nt).trans (same_new nd')) upd_same (same_new nd' _ _ upd_same)⟩⟩
/-- the methods as a caller sees them who may be refused -/
theorem okx_Inn_turn {C CG : Addr} (M_turn : Mf P w K mg base 4 C "turn" "Inn.turn" P_Inn_turn s_Inn_turn (sp_Inn_turn C)) (XB : MfX P w K mg base 4 C "turn" "Inn.turn" P_Inn_turn s_Inn_turn (sp_Inn_turn_b C CG)) : MfX P w K mg base 4 C "turn" "Inn.turn" P_Inn_turn s_Inn_turn (sp_Inn_turn_x C CG) := M_turn.orx XB (fun _ _ => meth_one) (by decide)
theorem okx_Inn_come {C CG : Addr} (M_come : Mf P w K mg base 2 C "come" "Inn.come" P_Inn_come s_Inn_come (sp_Inn_come C)) (XB : MfX P w K mg base 4 C "come" "Inn.come" P_Inn_come s_Inn_come (sp_Inn_come_b C CG)) : MfX P w K mg base 4 C "come" "Inn.come" P_Inn_come s_Inn_come (sp_Inn_come_x C CG) := M_come.orx XB (fun _ _ => meth_one) (by decide)
theorem okx_Inn_where {C CG : Addr} (M_where : Mf P w K mg base 2 C "where" "Inn.where" P_Inn_where s_Inn_where (sp_Inn_where C)) (XB : MfX P w K mg base 4 C "where" "Inn.where" P_Inn_where s_Inn_where (sp_gone_b C CG)) : MfX P w K mg base 4 C "where" "Inn.where" P_Inn_where s_Inn_where (sp_Inn_where_x C CG) := M_where.orx XB (fun _ _ => meth_one) (by decide)
theorem okx_Inn_go {C CG : Addr} (M_go : Mf P w K mg base 3 C "go" "Inn.go" P_Inn_go s_Inn_go (sp_Inn_go C)) (XB : MfX P w K mg base 5 C "go" "Inn.go" P_Inn_go s_Inn_go (sp_gone_b C CG)) : MfX P w K mg base 5 C "go" "Inn.go" P_Inn_go s_Inn_go (sp_Inn_go_x C CG) := M_go.orx XB (fun _ _ => meth_one) (by decide)
end
end El
namespace El
open PySem PySem.Spec PyProof.Rows L2
theorem with_key {W : WX} {G : Prop} {Pk : Value → Option Addr → Hp → Prop} {σ : L2.St} (main : (∀ c d H1, Pk c d H1 → W c d σ H1) → G) (k : ∀ c d H1, Pk c d H1 → W c d σ H1) : G := main k
/-- what is known of an error of guests, as the law asks -/
structure KdR (K : PySem.W.Frag) (C0 CG CC CR CS CT : Addr) : Prop where
  te : PySem.W.exmOne K (.ref CG) (.ref C0) = some true
  kg : PySem.W.kitOne K (.ref CG) (.ref CG) = some true
  kn : PySem.W.kitAny K (.ref CG) [.ref CC, .ref CR, .ref CS, .ref CT] = some false
  kv : PySem.W.kitOne K (.ref CG) (.type "ValueError") = some true
section
variable {P : Program} {w : World} {K : PySem.W.Frag} {mg : Str → Option Value} {base : Heap}
abbrev s__law_refusal : Stmt := topS 18
abbrev N__law_refusal : List Str := ["made", "word", "old", "bears", "caught", "e"]
abbrev P__law_refusal : List Str := ["made", "word", "old", "bears"]
theorem sc__law_refusal : FnScope N__law_refusal P__law_refusal (defScope s__law_refusal) := ⟨rfl, rfl, rfl, by decide +kernel, rfl, by decide +kernel, by decide +kernel⟩
def sp__law_refusal (C : Addr) : Sp := fun vs H Q _ => ∃ (B : Addr → Prop) (p d o : Addr) (ts : List Addr) (gs : List (Int × Int)) (word : Str) (old bears : Int), vs = [.ref p, .str word, .int old, .int bears] ∧ InnAt C H B p d o ts gs (settle gs) ∧ Fit gs ∧ gs.length ≤ 400 ∧ old.natAbs < 10 ^ 200 ∧ bears.natAbs < 10 ^ 200 ∧
  ((word = "come" ∧ Fit (gs ++ [(old, bears)]) ∧ ∀ H' r q us ts', InnAt C H' (fun b => Apart B H q us b ∧ b ≠ r) p d o ts' (gs ++ [(old, bears)]) (settle (gs ++ [(old, bears)])) → H r = none → r ≠ q → r ∉ us → H' r = some (.lst []) → Kp (fun b => ¬ B b) H H' → (∀ b, H' b = none → H b = none) → Q (.ref r) H') ∨
   (word = "where" ∧ old ∈ gs.map (·.1) ∧ ∀ H' r, Same H H' → H r = none → H' r = some (.lst []) → Q (.ref r) H') ∨
   (((word = "come" ∧ (bears < 0 ∨ old ∈ gs.map (·.1))) ∨ (word = "turn" ∧ old ∈ gs.map (·.1) ∧ bears < 0)) ∧ ∀ H' r t, Same H H' → H r = none → H' r = some (.lst [.ref t]) → H' t = some (.tup [.int old, .int bears]) → Q (.ref r) H') ∨
   ((word = "turn" ∨ word = "go" ∨ word = "where") ∧ old ∉ gs.map (·.1) ∧ ∀ H' r, Same H H' → H r = none → H' r = some (.lst [.int old]) → Q (.ref r) H'))
theorem ok__law_refusal {C C0 CG CC CR CS CT : Addr} (A : At K mg "_law_refusal" P__law_refusal s__law_refusal) (B : Bi mg) (T : InnT K mg C) (JX : IsX K) (KR : KdR K C0 CG CC CR CS CT) (OG : ∃ x fI, Own K mg x CG fI) (G_InnError : mg "InnError" = some (.ref C0)) (G_NoGuest : mg "NoGuest" = some (.ref CG)) (G_NoCrowd : mg "NoCrowd" = some (.ref CC)) (G_NoRoom : mg "NoRoom" = some (.ref CR)) (G_NoRooms : mg "NoRooms" = some (.ref CS)) (G_NoText : mg "NoText" = some (.ref CT))
    (XM_come : MfX P w K mg base 4 C "come" "Inn.come" P_Inn_come s_Inn_come (sp_Inn_come_x C CG)) (XM_turn : MfX P w K mg base 4 C "turn" "Inn.turn" P_Inn_turn s_Inn_turn (sp_Inn_turn_x C CG)) (XM_go : MfX P w K mg base 5 C "go" "Inn.go" P_Inn_go s_Inn_go (sp_Inn_go_x C CG)) (XM_where : MfX P w K mg base 4 C "where" "Inn.where" P_Inn_where s_Inn_where (sp_Inn_where_x C CG)) :
    Df P w K mg base 6 "_law_refusal" P__law_refusal s__law_refusal (sp__law_refusal C) := by
  refine A.df fun f fd F => F.ok sc__law_refusal (fun vs H Q E h => ?_) (fun cdv AA outer s H vs Q E hr h => ?_)
  · obtain ⟨_, _, _, _, _, _, _, _, _, rfl, _⟩ := h
    rfl
  · obtain ⟨BB, p, d, o, ts, gs, word, old, bears, rfl, hI, hF, hl, ho, hb, hW⟩ := h
    have nd := sc__law_refusal.nd
    refine ⟨_, (pss_cons (ps_set (i := 4) nd rfl (.inl rfl) pe_non)
    (pss_cons (ps_try_kept (i := 5) rfl rfl nd rfl rfl ⟨rfl, by decide, .inl G_InnError⟩ rfl (fun W pn xe tk po => (pss_one (ps_if (pt_cmpR op_eq (pv 1) pe_str (nomark _)) (pss_one (ps_expr (pe_mfS XM_come T.cl tk (hr.mono (by decide)) (pv 0) (pa_cons (pv 2) (pa_cons (pv 3) pa_nil))))) (pss_one (ps_if (pt_cmpR op_eq (pv 1) pe_str (nomark _)) (pss_one (ps_expr (pe_mfS XM_turn T.cl tk (hr.mono (by decide)) (pv 0) (pa_cons (pv 2) (pa_cons (pv 3) pa_nil))))) (pss_one (ps_if (pt_cmpR op_eq (pv 1) pe_str (nomark _)) (pss_one (ps_expr (pe_mfS XM_go T.cl tk (hr.mono (by decide)) (pv 0) (pa_cons (pv 2) pa_nil)))) (pss_one (ps_expr (pe_mfS XM_where T.cl tk (hr.mono (by decide)) (pv 0) (pa_cons (pv 2) pa_nil))))))))))) (fun a oe cls d pn hz hf => (pss_one (ps_set (i := 4) nd rfl (.inl rfl) (pv 5)))))
    (pss_cons (ps_if (pt_cmpR op_isN (pv 4) pe_non (nomark _)) (pss_one (ps_ret (pe_lst pa_nil))) pss_nil)
    (pss_cons (ps_if (PW.pt (pw_or (pt_not (pt_val (pe_callB (call_isE K mg) (by rfl) B.isinstance (by decide +kernel) (pa_cons (pv 4) (pa_cons (pe_glob rfl G_NoGuest (relRef _)) pa_nil))))) (pw_or1 (pt_val (pe_callB (call_isE K mg) (by rfl) B.isinstance (by decide +kernel) (pa_cons (pv 4) (pa_cons (pe_tup (pa_cons (pe_glob rfl G_NoCrowd (relRef _)) (pa_cons (pe_glob rfl G_NoRoom (relRef _)) (pa_cons (pe_glob rfl G_NoRooms (relRef _)) (pa_cons (pe_glob rfl G_NoText (relRef _)) pa_nil))))) pa_nil))))))) (pss_one (ps_ret (pe_lst (pa_cons pe_str pa_nil)))) pss_nil)
    (pss_one (ps_ret (pe_ifExp (pt_val (pe_callB (call_isE K mg) (by rfl) B.isinstance (by decide +kernel) (pa_cons (pv 4) (pa_cons (pe_bltn (by rfl) B.ValueError_ bootVE (relTy _)) pa_nil)))) (pe_lst (pa_cons (pe_what K mg (pv 4)) pa_nil)) (pe_lst (pa_cons pe_str pa_nil))))))))), ?_⟩
    dsimp only [gName]
    obtain ⟨dx, hp⟩ := hI.ob
    have nf : ∀ m : Str, (iflds d o).lookup m = none → (iflds d o).lookup m = none := fun _ h => h
    refine' with_key (σ := [some (.ref p), some (.str word), some (.int old), some (.int bears), some .non, none]) (Pk := fun c dd H1 => ∃ (v : V) (dx : Addr), c = .ref CG ∧ dd = some dx ∧ Same H H1 ∧ H1 dx = some (.xd [(("what" : Str), v)]) ∧ ∀ H' r, Same H1 H' → H1 r = none → H' r = some (.lst [v]) → Q (.ref r) H') (fun key => ?_) (fun c dd H1 hP => ?_)
    rotate_left
    · rcases hW with ⟨rfl, hF2, q⟩ | ⟨rfl, hin, q⟩ | ⟨hw, q⟩ | ⟨hw, hout, q⟩
      · refine ⟨_, rfl, rfl, _, rfl, iteT ⟨.ref p, rfl, p, dx, _, rfl, hp, iflds_no _ _ (by decide +kernel) (by decide +kernel), .int old, rfl, .int bears, rfl, .inl ⟨BB, p, d, o, ts, gs, (old, bears), rfl, hI, hF2, hl, fun H1 q1 us ts' I1 G1 k1 v1 => ?_⟩⟩⟩
        dsimp only
        refine ⟨.non, rfl, rfl, _, rfl, iteT ⟨Nat.zero_le _, fun r nr => ?_⟩⟩
        have s1 := same_new (o := .lst []) nr
        refine q _ r q1 us ts' ((I1.reB fun b ⟨x, ex⟩ hb => ⟨hb, fun z => by rw [z, nr] at ex; cases ex⟩).same s1) (v1 r nr) (fun z => ?_) (fun z => ?_) upd_same (k1.trans (Kp.of s1)) fun b e => v1 b (s1.free e)
        · rw [z, G1.top] at nr
          cases nr
        · obtain ⟨x, ex⟩ := G1.there r (.inr z)
          rw [nr] at ex
          cases ex
      · obtain ⟨x, hx, rfl⟩ := List.mem_map.mp hin
        obtain ⟨m, R, eR, mR, _, only, _⟩ := Hole.start hF hx
        have lset : (settle gs).length ≤ gs.length := by
          have := settleL_len (byAge gs)
          rw [byAge_length] at this
          exact this
        refine ⟨_, rfl, rfl, _, rfl, iteX (by rfl) ⟨_, rfl, rfl, _, rfl, iteX (by rfl) ⟨_, rfl, rfl, _, rfl, iteX (by rfl) ⟨.ref p, rfl, p, dx, _, rfl, hp, iflds_no _ _ (by decide +kernel) (by decide +kernel), .int x.1, rfl, .inl ⟨BB, p, d, o, ts, gs, settle gs, x.1, m, R, rfl, hI, hF.nd, hin, by omega, eR, mR, only, fun H1 s1 => ?_⟩⟩⟩⟩⟩
        dsimp only
        exact ⟨.non, rfl, rfl, _, rfl, iteT ⟨Nat.zero_le _, fun r nr => q _ r (s1.trans (same_new nr)) (s1.free nr) upd_same⟩⟩
      · rcases hw with ⟨rfl, hc⟩ | ⟨rfl, hin, hneg⟩
        · exact ⟨_, rfl, rfl, _, rfl, iteT ⟨.ref p, rfl, p, dx, _, rfl, hp, iflds_no _ _ (by decide +kernel) (by decide +kernel), .int old, rfl, .int bears, rfl, .inr ⟨BB, p, d, o, ts, gs, settle gs, old, bears, rfl, hI, hF.nd, ho, hb, hc, fun H' dx' t s e et => key (.ref CG) (some dx') H' ⟨.ref t, dx', rfl, rfl, s, e, fun H2 r s2 nr er => q H2 r t (s.trans s2) (s.free nr) er (s2 _ _ et)⟩⟩⟩⟩
        · exact ⟨_, rfl, rfl, _, rfl, iteX (by rfl) ⟨_, rfl, rfl, _, rfl, iteT ⟨.ref p, rfl, p, dx, _, rfl, hp, iflds_no _ _ (by decide +kernel) (by decide +kernel), .int old, rfl, .int bears, rfl, .inr ⟨BB, p, d, o, ts, gs, settle gs, old, bears, rfl, hI, hF.nd, ho, hb, .inr ⟨hin, hneg, fun H' dx' t s e et => key (.ref CG) (some dx') H' ⟨.ref t, dx', rfl, rfl, s, e, fun H2 r s2 nr er => q H2 r t (s.trans s2) (s.free nr) er (s2 _ _ et)⟩⟩⟩⟩⟩⟩
      · have gone : ∀ H' dx', Same H H' → H' dx' = some (.xd [(("what" : Str), .int old)]) → _ := fun H' dx' s e => key (.ref CG) (some dx') H' ⟨.int old, dx', rfl, rfl, s, e, fun H2 r s2 nr er => q H2 r (s.trans s2) (s.free nr) er⟩
        rcases hw with rfl | rfl | rfl
        · exact ⟨_, rfl, rfl, _, rfl, iteX (by rfl) ⟨_, rfl, rfl, _, rfl, iteT ⟨.ref p, rfl, p, dx, _, rfl, hp, iflds_no _ _ (by decide +kernel) (by decide +kernel), .int old, rfl, .int bears, rfl, .inr ⟨BB, p, d, o, ts, gs, settle gs, old, bears, rfl, hI, hF.nd, ho, hb, .inl ⟨hout, gone⟩⟩⟩⟩⟩
        · exact ⟨_, rfl, rfl, _, rfl, iteX (by rfl) ⟨_, rfl, rfl, _, rfl, iteX (by rfl) ⟨_, rfl, rfl, _, rfl, iteT ⟨.ref p, rfl, p, dx, _, rfl, hp, iflds_no _ _ (by decide +kernel) (by decide +kernel), .int old, rfl, .inr ⟨BB, p, d, o, ts, gs, settle gs, old, rfl, hI, hout, ho, gone⟩⟩⟩⟩⟩
        · exact ⟨_, rfl, rfl, _, rfl, iteX (by rfl) ⟨_, rfl, rfl, _, rfl, iteX (by rfl) ⟨_, rfl, rfl, _, rfl, iteX (by rfl) ⟨.ref p, rfl, p, dx, _, rfl, hp, iflds_no _ _ (by decide +kernel) (by decide +kernel), .int old, rfl, .inr ⟨BB, p, d, o, ts, gs, settle gs, old, rfl, hI, hout, ho, gone⟩⟩⟩⟩⟩
    · obtain ⟨v, dx2, rfl, rfl, s1, ed, q⟩ := hP
      obtain ⟨xn, fI, hO⟩ := OG
      refine ⟨KR.te, fun a0 na => ⟨.ref a0, rfl, ?_⟩⟩
      have sx := same_new (o := Exc a0 (.ref CG) (some dx2)) na
      have hx : ExcAt K mg (upd H1 a0 (Exc a0 (.ref CG) (some dx2))) a0 CG v := ⟨xn, fI, dx2, upd_same, sx _ _ ed, hO⟩
      refine ⟨.ref a0, rfl, rfl, _, rfl, iteX (by rfl) ?_⟩
      dsimp only [tNext]
      refine ⟨.ref a0, rfl, a0, CG, v, hx, JX, .inl ⟨.ref CG, .ref CG, true, rfl, fun u r => r, KR.kg, true, rfl, iteF ?_⟩⟩
      refine ⟨.ref a0, rfl, (by show 4 ≤ sizeLine; decide), fun tp ntp => ?_⟩
      have s2 := same_new (o := .tup [.ref CC, .ref CR, .ref CS, .ref CT]) ntp
      refine ⟨a0, CG, v, hx.keep s2, JX, .inr ⟨tp, _, _, false, rfl, SqT.of upd_same, fun us r => valsRefs (l := [CC, CR, CS, CT]) r, KR.kn, false, rfl, iteF ?_⟩⟩
      dsimp only [tNext]
      refine ⟨.ref a0, rfl, a0, CG, v, hx.keep s2, JX, .inl ⟨.ty "ValueError", .type "ValueError", true, rfl, fun u r => r, KR.kv, true, rfl, iteT ?_⟩⟩
      refine ⟨.ref a0, rfl, a0, CG, v, rfl, hx.keep s2, (by show 1 ≤ sizeLine; decide), fun r nr => ?_⟩
      exact q _ r (sx.trans (s2.trans (same_new nr))) ((sx.trans s2).free nr) upd_same
end
end El
namespace El
open PySem PySem.Spec PyProof.Rows L2
/-! ### an error of a class without an own __init__, made and asked -/
structure BareC (K : PySem.W.Frag) (D : Addr) : Prop where
  cl : (PySem.W.clsIn K D).isSome = true
  xf : XfC K D
  ac : PySem.W.findIn K (.ref D) "__class__" = some (some (.builtin "object.__class__"))
  mo : PySem.W.mroIn K D (.type "object") = some true
section
variable {X : Cx} {pins : List (Addr × Obj)} {σ : L2.St} {H : Hp} {s : Shared}
theorem bare_inst {a D : Addr} (I : Inv X pins σ H s) (e : H a = some (ExO (.ref D) a)) : ∃ oe : Obj, PySem.W.InstAt s.heap a oe D none := by
  obtain ⟨⟨oe, vs, here, ⟨hc, hd⟩, dat, _⟩, _⟩ := (show ObjOk X.prog X.w H s.heap a (ExO (.ref D) a) from I.hok a _ e)
  exact ⟨oe, here, hc, by unfold PySem.W.notCls; rw [dat] <;> rfl, by rw [hd]; trivial⟩
/-- isinstance(e, c), e such an error, or one that keeps what it is given -/
def rIsB (K : PySem.W.Frag) (mg : Str → Option Value) : List V → Hp → VK → Prop := fun xs H Q => rIsE K mg xs H Q ∨ ∃ a D : Addr, H a = some (ExO (.ref D) a) ∧ BareC K D ∧ IsX K ∧ rIsD K D a xs H Q
theorem call_isB (K : PySem.W.Frag) (mg : Str → Option Value) (e : X.K = K := by rfl) (e2 : X.mg = mg := by rfl) : CallR X (.builtin "isinstance") (rIsB K mg) := by
  subst e e2
  intro pins s σ H xs us Q I rel asks
  rcases asks with asks | ⟨a, D, ea, T, J, c, cv, b, rfl, one, told, q⟩
  · exact call_isE X.K X.mg rfl rfl pins s σ H xs us Q I rel asks
  · obtain ⟨oe, here⟩ := bare_inst I ea
    obtain ⟨u1, u2, rfl, r1, r2⟩ := vals2 rel
    obtain rfl : u1 = Value.ref a := r1
    obtain rfl := one _ r2
    exact PySem.W.kia_one (PySem.W.kitx_exc T.cl T.xf.ga T.xf.gg T.xf.exC T.ac J.hn J.ht T.mo) I.kIn here told (fun z => nomatch z) fun tk => ⟨.bl b, H, I.kept (t' := tk) fun _ _ z => z, rfl, q⟩
end
end El
namespace El
open PySem PySem.Spec PyProof.Rows L2
/-! ### the Inn asked many things one after another -/
/-- what is asked, who is there then, and what is told -/
inductive Asks : List (Int × Int) → List (Str × Int × Int) → List (Int × Int) → List PyData → Prop
  | nil {gs : List (Int × Int)} : Asks gs [] gs []
  | come {gs gs' : List (Int × Int)} {a b : Int} {as : List (Str × Int × Int)} {ds : List PyData} : Fit (gs ++ [(a, b)]) → Asks (gs ++ [(a, b)]) as gs' ds → Asks gs (("come", a, b) :: as) gs' (.list [] :: ds)
  | there {gs gs' : List (Int × Int)} {a b : Int} {as : List (Str × Int × Int)} {ds : List PyData} : a ∈ gs.map (·.1) → Asks gs as gs' ds → Asks gs (("where", a, b) :: as) gs' (.list [] :: ds)
  | bad {gs gs' : List (Int × Int)} {w : Str} {a b : Int} {as : List (Str × Int × Int)} {ds : List PyData} : ((w = "come" ∧ (b < 0 ∨ a ∈ gs.map (·.1))) ∨ (w = "turn" ∧ a ∈ gs.map (·.1) ∧ b < 0)) → Asks gs as gs' ds → Asks gs ((w, a, b) :: as) gs' (.list [.tuple [.int a, .int b]] :: ds)
  | gone {gs gs' : List (Int × Int)} {w : Str} {a b : Int} {as : List (Str × Int × Int)} {ds : List PyData} : (w = "turn" ∨ w = "go" ∨ w = "where") → a ∉ gs.map (·.1) → Asks gs as gs' ds → Asks gs ((w, a, b) :: as) gs' (.list [.int a] :: ds)
structure AskAt (H : Hp) (B : Addr → Prop) (o : Addr) (ts : List Addr) (as : List (Str × Int × Int)) : Prop where
  top : H o = some (.lst (ts.map V.ref))
  len : ts.length = as.length
  at' : ∀ (i : Nat) (t : Addr) (x : Str × Int × Int), ts[i]? = some t → as[i]? = some x → H t = some (.tup [.str x.1, .int x.2.1, .int x.2.2])
  ba : B o
  b : ∀ t ∈ ts, B t
theorem AskAt.keep {H H' : Hp} {B : Addr → Prop} {o : Addr} {ts : List Addr} {as : List (Str × Int × Int)} (h : AskAt H B o ts as) (k : Kp B H H') : AskAt H' B o ts as :=
  ⟨k _ _ h.ba h.top, h.len, fun i t x e f => k _ _ (h.b t (List.mem_of_getElem? e)) (h.at' i t x e f), h.ba, h.b⟩
/-- told things that stand apart: the data is theirs whatever else happens -/
def Told (K : PySem.W.Frag) (Z : Addr → Prop) (H : Hp) : List V → List PyData → Prop := fun vs ds => vs.length = ds.length ∧ ∀ (i : Nat) (v : V) (d : PyData), vs[i]? = some v → ds[i]? = some d → ∀ H', Kp Z H H' → Dp K H' v d
theorem Told.keep {K : PySem.W.Frag} {Z : Addr → Prop} {H H' : Hp} {vs : List V} {ds : List PyData} (h : Told K Z H vs ds) (k : Kp Z H H') : Told K Z H' vs ds := ⟨h.1, fun i v d e f H'' k' => h.2 i v d e f H'' (k.trans k')⟩
theorem Told.more {K : PySem.W.Frag} {Z Z' : Addr → Prop} {H : Hp} {vs : List V} {ds : List PyData} {v : V} {d : PyData} (h : Told K Z H vs ds) (z : ∀ b, Z b → Z' b) (n : ∀ H', Kp Z' H H' → Dp K H' v d) : Told K Z' H (vs ++ [v]) (ds ++ [d]) := by
  refine ⟨by rw [List.length_append, List.length_append, h.1]; rfl, fun i w e ev ed H' k => ?_⟩
  rcases Nat.lt_or_ge i vs.length with hi | hi
  · rw [List.getElem?_append_left hi] at ev
    rw [List.getElem?_append_left (by rw [← h.1]; exact hi)] at ed
    exact h.2 i w e ev ed H' (k.weak z)
  · have := at_lt ev
    rw [List.length_append, List.length_singleton] at this
    obtain rfl : i = vs.length := by omega
    rw [List.getElem?_append_right (Nat.le_refl _), Nat.sub_self] at ev
    rw [h.1, List.getElem?_append_right (Nat.le_refl _), Nat.sub_self] at ed
    obtain rfl : v = w := Option.some.inj ev
    obtain rfl : d = e := Option.some.inj ed
    exact n H' k
theorem InnAt.noTup {C : Addr} {H : Hp} {B : Addr → Prop} {p d o t : Addr} {ts : List Addr} {gs : List (Int × Int)} {rs : List (List Int)} {xs : List V} (h : InnAt C H B p d o ts gs rs) (et : H t = some (.tup xs)) : InnAt C H (fun b => B b ∧ b ≠ t) p d o ts gs rs := by
  obtain ⟨⟨dx, e⟩, dc, rm, bp, bd⟩ := h
  have ne : ∀ {b : Addr} {u : HO}, H b = some u → (∀ xs, u ≠ .tup xs) → b ≠ t := fun e1 n z => n xs (by rw [z, et] at e1; exact (Option.some.inj e1).symm)
  refine ⟨⟨dx, e⟩, dc, ⟨rm.top, ⟨rm.bo, ne rm.top fun _ q => nomatch q⟩, rm.nd, rm.no, rm.len, rm.at', fun u m => ⟨rm.b u m, ?_⟩⟩, ⟨bp, ne e fun _ q => nomatch q⟩, ⟨bd, ne dc fun _ q => nomatch q⟩⟩
  obtain ⟨r, er⟩ := rm.lives m
  exact ne er fun _ q => nomatch q
section
variable {P : Program} {w : World} {K : PySem.W.Frag} {mg : Str → Option Value} {base : Heap}
abbrev s__law_asked : Stmt := topS 20
abbrev N__law_asked : List Str := ["made", "some", "word", "old", "bears"]
abbrev P__law_asked : List Str := ["made", "some"]
theorem sc__law_asked : FnScope N__law_asked P__law_asked (defScope s__law_asked) := ⟨rfl, rfl, rfl, by decide +kernel, rfl, by decide +kernel, by decide +kernel⟩
/-- how it stands when some have been asked -/
structure Aw (K : PySem.W.Frag) (C : Addr) (B : Addr → Prop) (H : Hp) (p d o D : Addr) (gs' : List (Int × Int)) (ds : List PyData) (rest : List (Str × Int × Int)) (j : Nat) (H2 : Hp) : Prop where
  ex : ∃ (B' Z : Addr → Prop) (ts' : List Addr) (gj : List (Int × Int)) (vs : List V) (d1 d2 : List PyData), InnAt C H2 B' p d o ts' gj (settle gj) ∧ (∀ b, B' b → B b ∨ H b = none) ∧ (∀ b, B' b → ¬ Z b ∧ b ≠ D) ∧ (∀ b, Z b → b ≠ D ∧ ∃ v, H2 b = some v) ∧ Told K Z H2 vs d1 ∧ Asks gj rest gs' d2 ∧ ds = d1 ++ d2 ∧
    H2 D = some (.lst vs) ∧ Kp (fun b => ¬ B b) H H2 ∧ (∀ b, H2 b = none → H b = none) ∧ Fit gj ∧ gj.length + rest.length ≤ 400 ∧ vs.length = j
def sp__law_asked (K : PySem.W.Frag) (C : Addr) : Sp := fun vs H Q _ => ∃ (B B2 : Addr → Prop) (p d o so : Addr) (ts sts : List Addr) (gs gs' : List (Int × Int)) (as : List (Str × Int × Int)) (ds : List PyData), vs = [.ref p, .ref so] ∧ InnAt C H B p d o ts gs (settle gs) ∧ Fit gs ∧ AskAt H B2 so sts as ∧ (∀ b, B2 b → ¬ B b) ∧ gs.length + as.length ≤ 400 ∧ (∀ x ∈ as, x.2.1.natAbs < 10 ^ 200 ∧ x.2.2.natAbs < 10 ^ 200) ∧ Asks gs as gs' ds ∧
  ∀ H' r, Aw K C B H p d o r gs' ds [] as.length H' → H r = none → Q (.ref r) H'
theorem ok__law_asked {C : Addr} (A : At K mg "_law_asked" P__law_asked s__law_asked) (B : Bi mg) (D__law_refusal : Df P w K mg base 6 "_law_refusal" P__law_refusal s__law_refusal (sp__law_refusal C)) : Df P w K mg base 7 "_law_asked" P__law_asked s__law_asked (sp__law_asked K C) := by
  refine A.df fun f fd F => F.ok sc__law_asked (fun vs H Q E h => ?_) (fun cdv AA outer s H vs Q E hr h => ?_)
  · obtain ⟨_, _, _, _, _, _, _, _, _, _, _, _, rfl, _⟩ := h
    rfl
  · obtain ⟨BB, B2, p, d, o, so, ts, sts, gs, gs', as, ds, rfl, hI, hF, hA, hB, hl, hz, hAs, q⟩ := h
    have nd := sc__law_asked.nd
    refine ⟨_, (pss_one (ps_ret (pe_lc (own := [("word", 2), ("old", 3), ("bears", 4)]) (tt := tYes) rfl nd (pi_list (pv 1)) (blkOk_by (N := N__law_asked) (sc := defScope s__law_asked) (by decide +kernel)) (fun _ _ _ _ _ => (pgTupK K 3 (by rfl) (pgs_cons (pg_name (i := 2) nd rfl (.inl rfl)) (pgs_cons (pg_name (i := 3) nd rfl (.inl rfl)) (pgs_cons (pg_name (i := 4) nd rfl (.inl rfl)) pgs_nil))))) (fun _ _ _ _ _ => pts_nil) (fun _ _ _ _ _ => (pe_df D__law_refusal (hr.mono (by decide)) (by rfl) (pa_cons (pv 0) (pa_cons (pv 2) (pa_cons (pv 3) (pa_cons (pv 4) pa_nil))))))))), ?_⟩
    refine ⟨.ref so, rfl, so, rfl, ⟨_, SqL.of hA.top⟩, fun D nD => ?_⟩
    have s0 := same_new (o := .lst []) nD
    refine lc_it (walk_list (xs := sts.map V.ref)) (fun j H2 => Aw K C BB H p d o D gs' ds (as.drop j) j H2) ?_ (fun j H2 _ hW => ?_) (fun j v H2 H3 hj hW hY => ?_) (fun H2 hW => ?_)
    · exact ⟨fun b => BB b ∧ ∃ v, H b = some v, fun _ => False, ts, gs, [], [], ds, (hI.reB fun b z hb => ⟨hb, z⟩).same s0, fun b hb => .inl hb.1, fun b hb => ⟨fun z => z, fun z => by obtain ⟨v, e⟩ := hb.2; rw [z, nD] at e; cases e⟩, fun b z => z.elim, ⟨rfl, fun i v d e => by simp at e⟩, hAs, rfl, upd_same, Kp.of s0, fun b e => s0.free e, hF, hl, rfl⟩
    · obtain ⟨B', Z, ts', gj, vs, d1, d2, I, i1, i2, i3, T, As, ed, eD, k, v, Fj, lj, lv⟩ := hW.ex
      exact SqL.of (hA.keep (k.weak hB)).top
    · obtain ⟨B', Z, ts', gj, vs, d1, d2, I, i1, i2, i3, T, As, ed, eD, k, vv, Fj, lj, lv⟩ := hW.ex
      obtain ⟨rfl, hv⟩ := hY
      have hA2 := hA.keep (k.weak hB)
      rw [List.getElem?_map] at hv
      obtain ⟨t, et, rfl⟩ := Option.map_eq_some_iff.mp hv
      obtain ⟨x, ex⟩ := at_some (l := as) (i := j) (by rw [← hA.len]; exact at_lt et)
      have htup := hA2.at' j t x et ex
      have edr : as.drop j = x :: as.drop (j + 1) := by
        obtain ⟨h1, h2⟩ := List.getElem?_eq_some_iff.mp ex
        rw [List.drop_eq_getElem_cons h1, h2]
      obtain ⟨word, old, bears⟩ := x
      obtain ⟨hz1, hz2⟩ := hz _ (List.mem_of_getElem? ex)
      rw [edr] at As lj
      rw [List.length_cons] at lj
      refine ⟨t, _, rfl, SqT.of htup, rfl, .str word, _, rfl, .int old, _, rfl, .int bears, _, rfl, rfl, rfl, ?_⟩
      refine ⟨.ref p, rfl, .str word, rfl, .int old, rfl, .int bears, rfl, B', p, d, o, ts', gj, word, old, bears, rfl, I, Fj, by omega, hz1, hz2, ?_⟩
      have hj2 := at_lt ex
      have eD3 : ∀ b, H3 b = none → b ≠ D := fun b e z => by
        rw [z, eD] at e
        cases e
      have done : ∀ (H' : Hp) (r : Addr) (Bn Zr : Addr → Prop) (tsn : List Addr) (gn : List (Int × Int)) (e : PyData) (d2' : List PyData), InnAt C H' Bn p d o tsn gn (settle gn) → (∀ b, Bn b → B' b ∨ H3 b = none) → (∀ b, Bn b → ¬ Zr b) → (∀ b, Zr b → b ≠ D ∧ ∃ v, H' b = some v) →
          (∀ H'', Kp Zr H' H'' → Dp K H'' (.ref r) e) → Kp (fun b => ¬ B' b) H3 H' → (∀ b, H' b = none → H3 b = none) → Asks gn (as.drop (j + 1)) gs' d2' → d2 = e :: d2' → Fit gn → gn.length ≤ gj.length + 1 →
          ∃ acc, H' D = some (.lst acc) ∧ acc.length < sizeLine ∧ Aw K C BB H p d o D gs' ds (as.drop (j + 1)) (j + 1) (upd H' D (.lst (acc ++ [.ref r]))) := by
        intro H' r Bn Zr tsn gn e d2' In n1 n2 n3 nd' nk nv nA ne nF nl
        have eD' : H' D = some (.lst vs) := nk D _ (fun hb => (i2 D hb).2 rfl) eD
        have bD : ∀ b, Bn b → b ≠ D := fun b hb => (n1 b hb).elim (fun y => (i2 b y).2) (eD3 b)
        have kD : Kp (fun b => b ≠ D) H' (upd H' D (.lst (vs ++ [.ref r]))) := fun b u hb e => by
          rw [upd_ne hb]
          exact e
        have kZ : Kp Z H3 H' := nk.weak fun b z hb => (i2 b hb).1 z
        refine ⟨vs, eD', ils (n := vs.length) (by omega), ⟨Bn, fun b => Z b ∨ Zr b, tsn, gn, vs ++ [.ref r], d1 ++ [e], d2', In.keep (kD.weak bD), fun b hb => (n1 b hb).elim (i1 b) fun y => .inr (vv b y), fun b hb => ⟨fun z => z.elim (fun z => (n1 b hb).elim (fun y => (i2 b y).1 z) fun y => dead_live y (i3 b z).2) (n2 b hb), bD b hb⟩, fun b z => ?_, ?_, nA, by rw [ed, ne, List.append_assoc]; rfl, upd_same, fun b u hb eb => ?_, fun b eb => ?_, nF, by omega, by rw [List.length_append, lv]; rfl⟩⟩
        · rcases z with z | z
          · obtain ⟨x1, u, eu⟩ := i3 b z
            exact ⟨x1, u, kD _ _ x1 (kZ b u z eu)⟩
          · obtain ⟨x1, u, eu⟩ := n3 b z
            exact ⟨x1, u, kD _ _ x1 eu⟩
        · exact (T.keep (kZ.trans (kD.weak fun b z => (i3 b z).1))).more (fun b z => .inl z) fun H4 k4 => nd' H4 fun b u zb eb => k4 b u (.inr zb) (kD b u (n3 b zb).1 eb)
        · have nB : ¬ B' b := fun y => (i1 b y).elim hb fun y => by
            rw [y] at eb
            cases eb
          refine kD b u (fun y => ?_) (nk b u nB (k b u hb eb))
          rw [y, nD] at eb
          cases eb
        · have nb : b ≠ D := fun y => by
            rw [y, upd_same] at eb
            cases eb
          rw [upd_ne nb] at eb
          exact vv b (nv b eb)
      have Il : InnAt C H3 (fun b => B' b ∧ ∃ v, H3 b = some v) p d o ts' gj (settle gj) := I.reB fun b z hb => ⟨hb, z⟩
      have one : ∀ {H' : Hp} {r : Addr} {u : HO} (_ : H3 r = none) (_ : H' r = some u), ∀ b, b = r → b ≠ D ∧ ∃ v, H' b = some v := fun nr er b z => ⟨fun y => eD3 _ nr (z ▸ y), _, z ▸ er⟩
      cases As with
      | come hF2 As2 =>
        exact .inl ⟨rfl, hF2, fun H' r q1 us ts1 I1 nr rq ru er k1 v1 => done H' r _ (fun b => b = r) ts1 _ (.list []) _ I1 (fun b hb => hb.1.1) (fun b hb z => hb.2 z) (one nr er) (fun H'' kk => .lst (SqL.of (kk r _ rfl er)) .nil) k1 v1 As2 rfl hF2 (by rw [List.length_append]; exact Nat.le_refl _)⟩
      | there hin As2 =>
        exact .inr (.inl ⟨rfl, hin, fun H' r s nr er => done H' r _ (fun b => b = r) ts' gj (.list []) _ (Il.same s) (fun b hb => .inl hb.1) (fun b hb z => dead_live nr (z ▸ hb.2)) (one nr er) (fun H'' kk => .lst (SqL.of (kk r _ rfl er)) .nil) (Kp.of s) (fun b e => s.free e) As2 rfl Fj (Nat.le_succ _)⟩)
      | bad hw As2 =>
        exact .inr (.inr (.inl ⟨hw, fun H' r t2 s nr er et2 => done H' r _ (fun b => b = r ∨ b = t2) ts' gj (.list [.tuple [.int old, .int bears]]) _ ((Il.same s).noTup et2) (fun b hb => .inl hb.1.1) (fun b hb z => z.elim (fun z => dead_live nr (z ▸ hb.1.2)) hb.2)
          (fun b z => z.elim (one nr er b) fun z => ⟨fun y => (by rw [← z, y, s _ _ eD] at et2; cases et2), _, z ▸ et2⟩) (fun H'' kk => .lst (SqL.of (kk r _ (.inl rfl) er)) (.cons (.tup (SqT.of (kk t2 _ (.inr rfl) et2)) (.cons (.int _) (.cons (.int _) .nil))) .nil)) (Kp.of s) (fun b e => s.free e) As2 rfl Fj (Nat.le_succ _)⟩))
      | gone hw hout As2 =>
        exact .inr (.inr (.inr ⟨hw, hout, fun H' r s nr er => done H' r _ (fun b => b = r) ts' gj (.list [.int old]) _ (Il.same s) (fun b hb => .inl hb.1) (fun b hb z => dead_live nr (z ▸ hb.2)) (one nr er) (fun H'' kk => .lst (SqL.of (kk r _ rfl er)) (.cons (.int _) .nil)) (Kp.of s) (fun b e => s.free e) As2 rfl Fj (Nat.le_succ _)⟩))
    · exact q _ _ (by
        rw [List.length_map, hA.len, List.drop_length] at hW
        exact hW) nD
end
end El
namespace El
open PySem PySem.Spec PyProof.Rows L2
/-- all has been asked: the Inn as it stands then, and what is told as data -/
theorem One.asked {K : PySem.W.Frag} {C : Addr} {H5 H8 H9 : Hp} {t g x d o D : Addr} {n j : Nat} {Z BB : Addr → Prop} {ts : List Addr} {gi gs' : List (Int × Int)} {ds : List PyData} (h : One C H5 t g x d o n Z BB ts gi H8) (A : Aw K C BB H8 x d o D gs' ds [] j H9) :
    ∃ (BB' : Addr → Prop) (ts' : List Addr), One C H5 t g x d o n Z BB' ts' gs' H9 ∧ Kp Z H8 H9 ∧ Fit gs' ∧ ∀ H', Same H9 H' → Dp K H' (.ref D) (.list ds) := by
  obtain ⟨B', Z', ts', gj, vs, d1, d2, I, i1, i2, i3, T, As, ed, eD, k, v, Fj, _, _⟩ := A.ex
  have kz : Kp Z H8 H9 := k.weak fun b z y => h.bz b y z
  cases As with
  | nil =>
    rw [List.append_nil] at ed
    subst ed
    refine ⟨B', ts', ⟨I, fun b hb z => (i1 b hb).elim (fun y => h.bz b y z) fun y => dead_live y (h.zl b z), fun b hb => (i1 b hb).elim (h.b5 b) (h.v b), fun b z => let ⟨u, e⟩ := h.zl b z; ⟨u, kz _ _ z e⟩, h.z5, fun b u hb e => k b u (fun y => ?_) (h.k b u hb e), fun b e => h.v b (v b e),
      h.deck.keep k (fun y => (h.off t (h.b5 t y)).1 rfl) (fun y => (h.off g (h.b5 g y)).2 rfl), h.off⟩, kz, Fj, fun H' s => .lst (SqL.of (s _ _ eD)) (dpAll_of T.1 fun i w e ev ee => T.2 i w e ev ee H' (Kp.of s))⟩
    rw [h.b5 b y] at e
    cases e
end El
namespace El
open PySem PySem.Spec PyProof.Rows L2
section
variable {P : Program} {w : World} {K : PySem.W.Frag} {mg : Str → Option Value} {base : Heap}
abbrev s__law_behind_right : Stmt := topS 22
abbrev N__law_behind_right : List Str := ["deck", "made", "folk", "away", "much", "old", "bears"]
abbrev P__law_behind_right : List Str := ["deck", "made", "folk", "away"]
theorem sc__law_behind_right : FnScope N__law_behind_right P__law_behind_right (defScope s__law_behind_right) := ⟨rfl, rfl, rfl, by decide +kernel, rfl, by decide +kernel, by decide +kernel⟩
theorem Fit.snoc {gs : List (Int × Int)} (F : Fit gs) {x : Int × Int} (h : x.1 ∉ gs.map (·.1)) (h0 : 0 ≤ x.2) : Fit (gs ++ [x]) := by
  refine ⟨?_, fun g m => ?_⟩
  · rw [List.map_append]
    refine List.nodup_append.mpr ⟨F.nd, by simp, fun a ha b hb => ?_⟩
    rw [List.map_singleton, List.mem_singleton] at hb
    rw [hb]
    exact fun z => h (z ▸ ha)
  · rcases List.mem_append.mp m with m | m
    · exact F.pos g m
    · rw [List.mem_singleton.mp m]
      exact h0
/-- one more behind a list of pairs, the list a new one -/
theorem gs_more {H : Hp} {B : Addr → Prop} {a c tt : Addr} {ts : List Addr} {gs : List (Int × Int)} {g : Int × Int} (h : GsAt H B a ts gs) (et : H tt = some (.tup [.int g.1, .int g.2])) (nc : H c = none) : GsAt (upd H c (.lst (ts.map V.ref ++ [.ref tt]))) (fun _ => True) c (ts ++ [tt]) (gs ++ [g]) := by
  refine ⟨by rw [upd_same, List.map_append]; rfl, trivial, by rw [List.length_append, List.length_append, h.len]; rfl, fun i t x e1 e2 => ?_, fun _ _ => trivial⟩
  have keep : ∀ {b : Addr} {v : HO}, H b = some v → upd H c (.lst (ts.map V.ref ++ [.ref tt])) b = some v := fun e => by
    rw [upd_ne (ne_of_none e nc)]
    exact e
  by_cases hi : i < ts.length
  · rw [List.getElem?_append_left hi] at e1
    rw [List.getElem?_append_left (by rw [← h.len]; exact hi)] at e2
    exact keep (h.at' i t x e1 e2)
  · have hi' : i = ts.length := by
      have := at_lt e1
      rw [List.length_append, List.length_singleton] at this
      omega
    subst hi'
    rw [List.getElem?_append_right (Nat.le_refl _), Nat.sub_self] at e1
    rw [h.len, List.getElem?_append_right (Nat.le_refl _), Nat.sub_self] at e2
    obtain rfl : tt = t := Option.some.inj e1
    obtain rfl : g = x := Option.some.inj e2
    exact keep et
/-- made.rooms() != _law_by_age(folk + [(away, much)]), where they are alike -/
theorem ask_by_age {C : Addr} {H5 Hi : Hp} {t g x d o fo : Addr} {n : Nat} {Z BB : Addr → Prop} {ts fts : List Addr} {gi fk : List (Int × Int)} {z m : Int} {σ : L2.St} {Q : VK} (W : One C H5 t g x d o n Z BB ts gi Hi) (GF : GsAt Hi Z fo fts fk) (p : gi.Perm (fk ++ [(z, m)])) (F : Fit (fk ++ [(z, m)])) (hl : fk.length ≤ 60)
    (h1 : σ[1]? = some (some (.ref x))) (h2 : σ[2]? = some (some (.ref fo))) (h3 : σ[3]? = some (some (.int z))) (h4 : σ[4]? = some (some (.int m))) (h : ∀ H', Same Hi H' → Q (.bl false) H') :
    tOp (rNeD K) (tMeth C "rooms" (sp_Inn_rooms C) [] E0 (tVar 1) tNil) (tCall sp__law_by_age [] E0 (tCons (tOp rCat (tVar 2) (tLst (tCons (tTup (tCons (tVar 3) (tCons (tVar 4) tNil))) tNil))) tNil)) σ Hi Q := by
  obtain ⟨dxi, hpi⟩ := W.i.ob
  have eS : settle gi = settle (fk ++ [(z, m)]) := settle_congr F p
  have lset : (settle gi).length ≤ 61 := by
    have := settleL_len (byAge gi)
    rw [byAge_length, p.length_eq, List.length_append] at this
    exact Nat.le_trans this (Nat.succ_le_succ hl)
  refine ⟨.ref x, h1, x, dxi, _, rfl, hpi, iflds_no _ _ (by decide +kernel) (by decide +kernel), _, x, d, o, ts, gi, settle gi, rfl, W.i, by omega, fun Ha qa ua sa Ra => ?_⟩
  refine ⟨.ref fo, h2, .int z, h3, .int m, h4, (by show 2 ≤ sizeLine; decide), fun tt nt => ⟨(by show 1 ≤ sizeLine; decide), fun l nl => ?_⟩⟩
  have st := same_new (o := .tup [.int z, .int m]) nt
  have sl := same_new (o := .lst [.ref tt]) nl
  have GA := GF.same (sa.trans (st.trans sl))
  refine ⟨fo, l, _, _, rfl, rfl, GA.top, upd_same, ?_, fun c nc => ?_⟩
  · rw [List.length_map, GF.len]
    exact Nat.le_of_lt (ils (n := fk.length + 1) (by omega))
  have ett : upd (upd Ha tt (.tup [.int z, .int m])) l (.lst [.ref tt]) tt = some (.tup [.int z, .int m]) := sl _ _ (show upd Ha tt (.tup [.int z, .int m]) tt = _ from upd_same)
  have GC := gs_more (g := (z, m)) GA ett nc
  have sc := same_new (o := .lst (fts.map V.ref ++ [.ref tt])) nc
  refine ⟨_, c, fts ++ [tt], fk ++ [(z, m)], rfl, GC, F, by rw [List.length_append]; exact Nat.le_trans (Nat.succ_le_succ hl) (by decide), fun Hb o2 us2 s2 R2 => ?_⟩
  have sAll := st.trans (sl.trans (sc.trans s2))
  refine ⟨dRows _, dRows _, (Ra.same sAll).dp, R2.dp, (Oks.rows _).shaped, (Oks.rows _).shaped, ?_⟩
  rw [eS, (Oks.rows _).eqv]
  exact h _ (sa.trans sAll)
def sp__law_behind_right (C : Addr) : Sp := fun vs H Q _ => ∃ (H5 : Hp) (t g x d o fo : Addr) (n : Nat) (Z BB : Addr → Prop) (ts fts : List Addr) (gk fk : List (Int × Int)) (z : Int), vs = [.ref t, .ref x, .ref fo, .int z] ∧ One C H5 t g x d o n Z BB ts gk H ∧ GsAt H Z fo fts fk ∧ gk.Perm fk ∧ Fit fk ∧ z ∉ fk.map (·.1) ∧ fk.length ≤ 60 ∧ n ≤ 900000000 ∧
  ∀ (H' : Hp) (BB' : Addr → Prop) (ts' : List Addr) (gk' : List (Int × Int)), One C H5 t g x d o (n + 1) Z BB' ts' gk' H' → Kp Z H H' → gk'.Perm fk → Q (.bl true) H'
theorem ok__law_behind_right {C : Addr} (A : At K mg "_law_behind_right" P__law_behind_right s__law_behind_right) (B : Bi mg) (T : InnT K mg C) (M_come : Mf P w K mg base 2 C "come" "Inn.come" P_Inn_come s_Inn_come (sp_Inn_come C)) (M_go : Mf P w K mg base 3 C "go" "Inn.go" P_Inn_go s_Inn_go (sp_Inn_go C)) (M_turn : Mf P w K mg base 4 C "turn" "Inn.turn" P_Inn_turn s_Inn_turn (sp_Inn_turn C)) (M_rooms : Mf P w K mg base 1 C "rooms" "Inn.rooms" P_Inn_rooms s_Inn_rooms (sp_Inn_rooms C)) (M_guests : Mf P w K mg base 1 C "guests" "Inn.guests" P_Inn_guests s_Inn_guests (sp_Inn_guests C)) (M_where : Mf P w K mg base 2 C "where" "Inn.where" P_Inn_where s_Inn_where (sp_Inn_where C))
    (D__law_take : Df P w K mg base 1 "_law_take" P__law_take s__law_take sp__law_take) (D__law_by_age : Df P w K mg base 1 "_law_by_age" P__law_by_age s__law_by_age sp__law_by_age) : Df P w K mg base 5 "_law_behind_right" P__law_behind_right s__law_behind_right (sp__law_behind_right C) := by
  refine A.df fun f fd F => F.ok sc__law_behind_right (fun vs H Q E h => ?_) (fun cdv AA outer s H vs Q E hr h => ?_)
  · obtain ⟨_, _, _, _, _, _, _, _, _, _, _, _, _, _, _, rfl, _⟩ := h
    rfl
  · obtain ⟨H5, t, g, x, d, o, fo, n, Z, BB, ts, fts, gk, fk, z, rfl, W, GF, pk, hF, hz, hl, hn, q⟩ := h
    have nd := sc__law_behind_right.nd
    refine ⟨_, (pss_cons (ps_set (i := 4) nd rfl (.inl rfl) (pe_df D__law_take (hr.mono (by decide)) (by rfl) (pa_cons (pv 0) (pa_cons pe_int pa_nil))))
    (pss_cons (ps_if (PW.pt (pw_or (pt_cmpR (op_neD hr.units) (pe_ix ix_list (pe_mf M_come T.cl (hr.mono (by decide)) (pv 1) (pa_cons (pv 3) (pa_cons (pv 4) pa_nil))) pe_int (fun _ _ => rfl)) (pe_tup (pa_cons (pv 3) (pa_cons pe_int pa_nil))) (nomark _)) (pw_or1 (pt_cmpR (op_neD hr.units) (pe_mf0 M_rooms T.cl (hr.mono (by decide)) (pv 1)) (pe_df D__law_by_age (hr.mono (by decide)) (by rfl) (pa_cons (pe_op op_cat (pv 2) (pe_lst (pa_cons (pe_tup (pa_cons (pv 3) (pa_cons (pv 4) pa_nil))) pa_nil))) pa_nil)) (nomark _))))) (pss_one (ps_ret pe_bl)) pss_nil)
    (pss_cons (ps_for PassesOwn.never rfl (pi_list (pv 2)) (pg_tup (by rfl) (pgs_cons (pg_name (i := 5) nd rfl (.inl rfl)) (pgs_cons (pg_name (i := 6) nd rfl (.inl rfl)) pgs_nil))) (pss_cons (ps_expr (pe_mf M_go T.cl (hr.mono (by decide)) (pv 1) (pa_cons (pv 5) pa_nil))) (pss_one (ps_if (PW.pt (pw_or (pt_cmpR (op_neD hr.units) (pe_ix ix_list (pe_mf M_come T.cl (hr.mono (by decide)) (pv 1) (pa_cons (pv 5) (pa_cons pe_int pa_nil))) pe_int (fun _ _ => rfl)) (pe_tup (pa_cons (pv 5) (pa_cons pe_int pa_nil))) (nomark _)) (pw_or1 (pt_cmpR (op_eqD hr.units) (pe_mf M_turn T.cl (hr.mono (by decide)) (pv 1) (pa_cons (pv 5) (pa_cons (pv 6) pa_nil))) (pe_lst pa_nil) (nomark _))))) (pss_one (ps_ret pe_bl)) pss_nil))))
    (pss_cons (ps_if (PW.pt (pw_or (pt_cmpR (op_neD hr.units) (pe_mf0 M_rooms T.cl (hr.mono (by decide)) (pv 1)) (pe_df D__law_by_age (hr.mono (by decide)) (by rfl) (pa_cons (pe_op op_cat (pv 2) (pe_lst (pa_cons (pe_tup (pa_cons (pv 3) (pa_cons (pv 4) pa_nil))) pa_nil))) pa_nil)) (nomark _)) (pw_or1 (pt_cmpR op_ge (pe_mf M_where T.cl (hr.mono (by decide)) (pv 1) (pa_cons (pv 3) pa_nil)) (pe_callB call_len_seq (by rfl) B.len PySem.boot_len (pa_cons (pe_mf0 M_rooms T.cl (hr.mono (by decide)) (pv 1)) pa_nil)) (nomark _))))) (pss_one (ps_ret pe_bl)) pss_nil)
    (pss_cons (ps_expr (pe_mf M_go T.cl (hr.mono (by decide)) (pv 1) (pa_cons (pv 3) pa_nil)))
    (pss_one (ps_ret (pe_and (pe_cmpR (op_eqD hr.units) (pe_mf0 M_rooms T.cl (hr.mono (by decide)) (pv 1)) (pe_df D__law_by_age (hr.mono (by decide)) (by rfl) (pa_cons (pv 2) pa_nil)) (nomark _)) (pe_one (pe_cmpR (op_eqD hr.units) (pe_mf0 M_guests T.cl (hr.mono (by decide)) (pv 1)) (pe_callBK (cr_sortedPK (b := true) rfl) (by rfl) B.sorted (by decide +kernel) (pa_cons (pv 2) pa_nil) (pk_cons pe_bl pk_nil)) (nomark _))))))))))), ?_⟩
    have lgk : gk.length ≤ 60 := by
      rw [pk.length_eq]
      exact hl
    refine ⟨.ref t, rfl, t, g, _, 5, rfl, W.deck, by omega, by decide, by decide, fun H1 m k1 T1 a1 b1 => ?_⟩
    dsimp only [gName]
    obtain ⟨W1, kz1⟩ := W.draw k1 T1
    have Fk := hF.perm pk
    have hzk : z ∉ gk.map (·.1) := fun y => hz ((pk.map (·.1)).mem_iff.mp y)
    have Fz : Fit (gk ++ [(z, m)]) := Fk.snoc hzk a1
    -- made.come(away, much)[0]
    obtain ⟨dx1, hp1⟩ := W1.i.ob
    refine ⟨_, rfl, x, dx1, _, rfl, hp1, iflds_no _ _ (by decide +kernel) (by decide +kernel), _, rfl, _, rfl, _, x, d, o, ts, gk, (z, m), rfl, W1.i, Fz, by omega, fun H2 q2 us2 ts2 I2 G2 kc2 vc2 => ?_⟩
    obtain ⟨W2, kz2, _⟩ := W1.inn I2 G2 kc2 vc2
    obtain ⟨T', eT⟩ := (comes_going Fz).ne
    obtain ⟨t0, et0⟩ := at_some (l := us2) (i := 0) (by rw [G2.len, eT]; exact Nat.succ_pos _)
    have h0 := G2.at' 0 t0 (z, ((0 : Nat) : Int)) et0 (by rw [eT]; rfl)
    refine ⟨q2, _, _, .ref t0, rfl, rfl, G2.seq, atI_nat (j := 0) (by rw [List.getElem?_map, et0]; rfl), .int z, rfl, (by show 2 ≤ sizeLine; decide), fun u nu => ?_⟩
    have su := same_new (o := .tup [.int z, .int 0]) nu
    have okp : ∀ z : Int, Oks 1 (.tuple [.int z, .int 0]) := fun z => .tup fun y m => by
      rcases List.mem_cons.mp m with rfl | m
      · exact .int _
      · rw [List.mem_singleton.mp m]
        exact .int _
    refine ⟨.tuple [.int z, .int 0], .tuple [.int z, .int 0], .tup (SqT.of (su _ _ h0)) (.cons (.int _) (.cons (.int _) .nil)), .tup (SqT.of upd_same) (.cons (.int _) (.cons (.int _) .nil)), (okp z).shaped, (okp z).shaped, _, rfl, ?_⟩
    rw [(okp z).eqv]
    refine ifNo rfl ?_
    have W3 := W2.same su
    have GF3 := ((GF.keep kz1).keep kz2).same su
    have kz3 := (kz1.trans kz2).trans (Kp.of su)
    clear W1 W2 h0
    revert W3 GF3 kz3
    generalize upd H2 u (.tup [.int z, .int 0]) = H3
    intro W3 GF3 kz3
    refine ask_by_age (K := K) W3 GF3 (pk.append_right [(z, m)]) (hF.snoc hz a1) hl rfl rfl rfl rfl fun H4 s4 => ⟨_, rfl, ifNo rfl ?_⟩
    dsimp only [tNext]
    have W4 := W3.same s4
    have GF4 := GF3.same s4
    have kz4 := kz3.trans (Kp.of s4)
    clear W3 GF3
    have F61 : Fit (fk ++ [(z, m)]) := hF.snoc hz a1
    refine ⟨.ref fo, rfl, fo, rfl, ⟨_, GF4.seq⟩, ?_⟩
    refine for_it (walk_list (xs := fts.map V.ref)) (fun j σ Hj => ∃ y5 y6 BB ts gj, σ = [some (.ref t), some (.ref x), some (.ref fo), some (.int z), some (.int m), y5, y6] ∧ One C H5 t g x d o (n + 1) Z BB ts gj Hj ∧ GsAt Hj Z fo fts fk ∧ Kp Z H Hj ∧ gj.Perm (fk ++ [(z, m)])) ⟨_, _, _, _, _, rfl, W4, GF4, kz4, pk.append_right [(z, m)]⟩ (fun j σ Hj _ hW => ?_) (fun j v σ Hj Hk hj hW hY => ?_) (fun σ Hj hW => ?_)
    · obtain ⟨_, _, _, _, _, _, _, G, _⟩ := hW
      exact G.seq
    · obtain ⟨y5, y6, BBj, tsj, gj, rfl, Wj, Gj, kj, pj⟩ := hW
      obtain ⟨rfl, hv⟩ := hY
      obtain ⟨tt, y, rfl, ey, ett⟩ := Gj.get hv
      have Fj := F61.perm pj
      have lgj : gj.length ≤ 61 := by
        rw [pj.length_eq, List.length_append]
        exact Nat.succ_le_succ hl
      have ymem : y ∈ gj := pj.mem_iff.mpr (List.mem_append_left _ (List.mem_of_getElem? ey))
      have yin : y.1 ∈ gj.map (·.1) := List.mem_map_of_mem ymem
      refine ⟨tt, _, rfl, SqT.of ett, rfl, .int y.1, _, rfl, .int y.2, _, rfl, rfl, ?_⟩
      dsimp only [gName]
      -- made.go(old)
      obtain ⟨dx5, hp5⟩ := Wj.i.ob
      refine ⟨_, rfl, x, dx5, _, rfl, hp5, iflds_no _ _ (by decide +kernel) (by decide +kernel), _, rfl, _, x, d, o, tsj, gj, y.1, rfl, Wj.i, Fj, yin, by omega, fun H6 q6 us6 ts6 I6 G6 kc6 vc6 => ?_⟩
      obtain ⟨W6, kz6, _⟩ := Wj.inn I6 G6 kc6 vc6
      have Fb : Fit (butA gj y.1) := Fj.without y.1
      have yout : y.1 ∉ (butA gj y.1).map (·.1) := fun mm => by
        obtain ⟨w, hw, ew⟩ := List.mem_map.mp mm
        have := (List.mem_filter.mp hw).2
        rw [ew] at this
        simp at this
      have lb : (butA gj y.1).length ≤ gj.length := List.length_filter_le _ _
      have Fc : Fit (butA gj y.1 ++ [(y.1, 0)]) := Fb.snoc yout (Int.le_refl 0)
      -- made.come(old, 0)[0]
      obtain ⟨dx6, hp6⟩ := W6.i.ob
      refine ⟨_, rfl, x, dx6, _, rfl, hp6, iflds_no _ _ (by decide +kernel) (by decide +kernel), _, rfl, _, x, d, o, ts6, butA gj y.1, (y.1, 0), rfl, W6.i, Fc, by omega, fun H7 q7 us7 ts7 I7 G7 kc7 vc7 => ?_⟩
      obtain ⟨W7, kz7, _⟩ := W6.inn I7 G7 kc7 vc7
      obtain ⟨T7, eT7⟩ := (comes_going Fc).ne
      obtain ⟨t7, et7⟩ := at_some (l := us7) (i := 0) (by rw [G7.len, eT7]; exact Nat.succ_pos _)
      have h7 := G7.at' 0 t7 (y.1, ((0 : Nat) : Int)) et7 (by rw [eT7]; rfl)
      refine ⟨q7, _, _, .ref t7, rfl, rfl, G7.seq, atI_nat (j := 0) (by rw [List.getElem?_map, et7]; rfl), .int y.1, rfl, (by show 2 ≤ sizeLine; decide), fun u nu => ?_⟩
      have su := same_new (o := .tup [.int y.1, .int 0]) nu
      refine ⟨.tuple [.int y.1, .int 0], .tuple [.int y.1, .int 0], .tup (SqT.of (su _ _ h7)) (.cons (.int _) (.cons (.int _) .nil)), .tup (SqT.of upd_same) (.cons (.int _) (.cons (.int _) .nil)), (okp y.1).shaped, (okp y.1).shaped, _, rfl, ?_⟩
      rw [(okp y.1).eqv]
      refine ifNo rfl ?_
      have W8 := W7.same su
      have GF8 := (((Gj.keep kz6).keep kz7).same su)
      have kz8 := ((kj.trans kz6).trans kz7).trans (Kp.of su)
      clear h7
      revert W8 GF8 kz8
      generalize upd H7 u (.tup [.int y.1, .int 0]) = H8
      intro W8 GF8 kz8
      -- made.turn(old, bears) == []
      have elast : butA (butA gj y.1 ++ [(y.1, 0)]) y.1 = butA gj y.1 := by
        have e1 : (butA gj y.1).filter (fun g : Int × Int => decide (g.1 ≠ y.1)) = butA gj y.1 := List.filter_eq_self.mpr fun g mg => (List.mem_filter.mp mg).2
        show (butA gj y.1 ++ [(y.1, 0)]).filter (fun g : Int × Int => decide (g.1 ≠ y.1)) = _
        rw [List.filter_append, e1]
        simp
      have hy0 : 0 ≤ y.2 := Fj.pos y ymem
      obtain ⟨dx8, hp8⟩ := W8.i.ob
      refine ⟨_, rfl, x, dx8, _, rfl, hp8, iflds_no _ _ (by decide +kernel) (by decide +kernel), _, rfl, _, rfl, _, x, d, o, ts7, butA gj y.1 ++ [(y.1, 0)], y, rfl, W8.i, Fc, by simp, hy0, by rw [List.length_append]; exact Nat.le_trans (Nat.succ_le_succ lb) (by omega), fun H9 q9 us9 ts9 I9 G9 kc9 vc9 => ?_⟩
      rw [elast] at I9
      obtain ⟨W9, kz9, Gq9⟩ := W8.inn I9 G9 kc9 vc9
      refine ⟨Nat.zero_le _, fun l nl => ?_⟩
      have sl := same_new (o := .lst []) nl
      refine ⟨dGs _, dInts [], (Gq9.same sl).dp, Dp.ints (ns := []) upd_same, (Oks.gs _).shaped, (Oks.ints _).shaped, _, rfl, ?_⟩
      have eT : PyData.eqv (dGs (turnT (butA gj y.1 ++ [(y.1, 0)]) y)) (dInts []) = false := by
        have Fy : Fit (butA gj y.1 ++ [y]) := Fb.snoc yout hy0
        obtain ⟨T9, eT9⟩ := (comes_going Fy).ne
        have : turnT (butA gj y.1 ++ [(y.1, 0)]) y = goT (butA gj y.1 ++ [(y.1, 0)]) y.1 ++ comeT (butA gj y.1) y := by
          unfold turnT
          rw [elast]
        rw [this, eT9]
        cases goT (butA gj y.1 ++ [(y.1, 0)]) y.1 <;> rfl
      rw [eT]
      refine ifNo rfl ?_
      exact ⟨_, _, _, ts9, _, rfl, W9.same sl, (GF8.keep kz9).same sl, (kz8.trans kz9).trans (Kp.of sl), ((List.perm_append_comm (l₁ := butA gj y.1) (l₂ := [y])).trans (without_perm Fj ymem)).trans pj⟩
    · obtain ⟨y5, y6, BBj, tsj, gj, rfl, Wj, Gj, kj, pj⟩ := hW
      have Fj := F61.perm pj
      have lgj : gj.length ≤ 61 := by
        rw [pj.length_eq, List.length_append]
        exact Nat.succ_le_succ hl
      dsimp only
      refine ask_by_age (K := K) Wj Gj pj F61 hl rfl rfl rfl rfl fun H6 s6 => ⟨_, rfl, ifNo rfl ?_⟩
      have W6 := Wj.same s6
      have G6 := Gj.same s6
      have zmem : ((z, m) : Int × Int) ∈ gj := pj.mem_iff.mpr (List.mem_append_right _ (List.mem_singleton.mpr rfl))
      have zin : z ∈ gj.map (·.1) := List.mem_map_of_mem zmem
      obtain ⟨mm, S, eR, mR, _, only, _⟩ := Hole.start Fj zmem
      have lset : (settle gj).length ≤ gj.length := by
        have := settleL_len (byAge gj)
        rw [byAge_length] at this
        exact this
      obtain ⟨dx6, hp6⟩ := W6.i.ob
      refine ⟨.ref x, rfl, x, dx6, _, rfl, hp6, iflds_no _ _ (by decide +kernel) (by decide +kernel), .int z, rfl, _, x, d, o, tsj, gj, settle gj, z, mm, S, rfl, W6.i, Fj.nd, zin, by omega, eR, mR, only, fun H7 s7 => ?_⟩
      have W7 := W6.same s7
      obtain ⟨dx7, hp7⟩ := W7.i.ob
      refine ⟨.ref x, rfl, x, dx7, _, rfl, hp7, iflds_no _ _ (by decide +kernel) (by decide +kernel), _, x, d, o, tsj, gj, settle gj, rfl, W7.i, by omega, fun H8 q8 us8 s8 R8 => ⟨q8, _, rfl, .inl R8.seq, _, _, rfl, rfl, _, rfl, ?_⟩⟩
      rw [decide_eq_false (by rw [List.length_map, R8.len]; have := at_lt eR; omega)]
      refine ifNo rfl ?_
      dsimp only [tNext]
      have W8 := W7.same s8
      have G8 := G6.same (s7.trans s8)
      have k8 := kj.trans (Kp.of (s6.trans (s7.trans s8)))
      -- made.go(away)
      obtain ⟨dx8, hp8⟩ := W8.i.ob
      refine ⟨_, rfl, x, dx8, _, rfl, hp8, iflds_no _ _ (by decide +kernel) (by decide +kernel), _, rfl, _, x, d, o, tsj, gj, z, rfl, W8.i, Fj, zin, by omega, fun H9 q9 us9 ts9 I9 G9 kc9 vc9 => ?_⟩
      obtain ⟨W9, kz9, _⟩ := W8.inn I9 G9 kc9 vc9
      have GF9 := G8.keep kz9
      have pe : (butA gj z).Perm fk := List.Perm.cons_inv (((without_perm Fj zmem).trans pj).trans (List.perm_append_comm (l₁ := fk) (l₂ := [(z, m)])))
      have eS : settle (butA gj z) = settle fk := settle_congr hF pe
      have eB : byAge (butA gj z) = byAge fk := byAge_congr hF pe
      have lf : (settle (butA gj z)).length ≤ 60 := by
        have := settleL_len (byAge (butA gj z))
        rw [byAge_length, pe.length_eq] at this
        exact Nat.le_trans this hl
      dsimp only
      obtain ⟨dx9, hp9⟩ := W9.i.ob
      refine ⟨.ref x, rfl, x, dx9, _, rfl, hp9, iflds_no _ _ (by decide +kernel) (by decide +kernel), _, x, d, o, ts9, butA gj z, settle (butA gj z), rfl, W9.i, by omega, fun H10 q10 us10 s10 R10 => ?_⟩
      refine ⟨.ref fo, rfl, Z, fo, fts, fk, rfl, GF9.same s10, hF, by omega, fun H11 o11 us11 s11 R11 => ?_⟩
      refine ⟨dRows _, dRows _, (R10.same s11).dp, R11.dp, (Oks.rows _).shaped, (Oks.rows _).shaped, _, rfl, ?_⟩
      rw [eS, (Oks.rows _).eqv]
      refine ifYes rfl ?_
      have W11 := W9.same (s10.trans s11)
      obtain ⟨dx11, hp11⟩ := W11.i.ob
      refine ⟨.ref x, rfl, x, dx11, _, rfl, hp11, iflds_no _ _ (by decide +kernel) (by decide +kernel), _, x, d, o, ts9, butA gj z, _, rfl, W11.i, hF.perm pe, by rw [pe.length_eq]; omega, fun H12 q12 us12 s12 G12 => ?_⟩
      have hG := GF9.same (s10.trans (s11.trans s12))
      refine ⟨.ref fo, rfl, fo, _, prOf H12, rfl, rfl, hG.seq, hG.mem, fun ys u hs hb nu => ?_⟩
      have hys := sorted_down hF hG.prs hs hb
      rw [if_pos rfl]
      have s13 : Same H12 (upd H12 u (.lst ys.reverse)) := same_new nu
      obtain ⟨us4, G13, _, _⟩ := hG.sortedN (H' := upd H12 u (.lst ys.reverse)) (p := u) (zs := ys.reverse) s13 ((List.reverse_perm ys).trans hb) hys upd_same
      rw [eB] at G12
      refine ⟨dGs (byAge fk), dGs (byAge fk), (G12.same s13).dp, G13.dp, (Oks.gs _).shaped, (Oks.gs _).shaped, ?_⟩
      rw [(Oks.gs _).eqv]
      exact q _ _ ts9 _ ((W11.same s12).same s13) ((k8.trans kz9).trans (Kp.of (s10.trans (s11.trans (s12.trans s13))))) pe
end
end El
namespace El
open PySem PySem.Spec PyProof.Rows L2
/-! ### one thing for each thing of a list; none at all -/
theorem lc_vals {K : PySem.W.Frag} {a D : Addr} {xs ys : List V} {i : Nat} {te : TE} {vs : List Nat} {σ : L2.St} {H1 : Hp} {Qd : Hp → Prop} (hL : H1 a = some (.lst xs)) (hD : H1 D = none) (hy : xs.length = ys.length) (hl : xs.length ≤ 1000)
    (he : ∀ (k : Nat) (x y : V) (H' : Hp), xs[k]? = some x → ys[k]? = some y → Same H1 H' → ∀ Q : VK, Q y H' → te ((wipe σ vs).set i (some x)) H' Q) (hw : ∀ x : V, wipe ((wipe σ vs).set i (some x)) vs = wipe σ vs)
    (hd : ∀ H2, Same H1 H2 → H2 D = some (.lst ys) → Qd H2) :
    ∃ W : Nat → Nat → Hp → Prop, (∃ m, W 0 m (upd H1 D (.lst []))) ∧ ∀ k m H, W k m H →
      ((Itl K a).stop k H ∧ Qd H) ∨ ((Itl K a).go k H ∧ ∃ Nx : Hp → Prop, (∀ H', Nx H' → ∃ m', m' < m ∧ W (k + 1) m' H') ∧ ∀ x H', (Itl K a).yld k H x H' → gName i x (wipe σ vs) H' fun σ2 H2 => wipe σ2 vs = wipe σ vs ∧ tYes σ2 H2 fun b H3 =>
        if b = true then te σ2 H3 fun y H4 => ∃ acc, H4 D = some (.lst acc) ∧ acc.length < sizeLine ∧ Nx (upd H4 D (.lst (acc ++ [y]))) else Nx H3) := by
  refine lc_it (walk_list (xs := xs)) (fun k H2 => Same H1 H2 ∧ H2 D = some (.lst (ys.take k))) ⟨same_new hD, upd_same⟩ (fun k H2 _ hW => SqL.of (hW.1 _ _ hL)) (fun k x H2 H3 hk hW hY => ?_) (fun H2 hW => ?_)
  · obtain ⟨sm, e⟩ := hW
    obtain ⟨rfl, hx⟩ := hY
    obtain ⟨y, ey⟩ := at_some (l := ys) (i := k) (by rw [← hy]; exact at_lt hx)
    refine ⟨hw x, he k x y H3 hx ey sm _ ⟨_, e, ils (by rw [List.length_take]; omega), Same.mut sm hD, ?_⟩⟩
    rw [upd_same, take_snoc ey]
  · obtain ⟨sm, e⟩ := hW
    rw [hy, List.take_length] at e
    exact hd H2 sm e
theorem lc_none {K : PySem.W.Frag} {a D : Addr} {xs : List V} {i : Nat} {tt : TT} {te : TE} {vs : List Nat} {σ : L2.St} {H1 : Hp} {Qd : Hp → Prop} (hL : H1 a = some (.lst xs)) (hD : H1 D = none)
    (ht : ∀ (x : V) (H' : Hp) (Q : Bool → Hp → Prop), x ∈ xs → Same H1 H' → Q false H' → tt ((wipe σ vs).set i (some x)) H' Q) (hw : ∀ x : V, wipe ((wipe σ vs).set i (some x)) vs = wipe σ vs)
    (hd : ∀ H2, Same H1 H2 → H2 D = some (.lst []) → Qd H2) :
    ∃ W : Nat → Nat → Hp → Prop, (∃ m, W 0 m (upd H1 D (.lst []))) ∧ ∀ k m H, W k m H →
      ((Itl K a).stop k H ∧ Qd H) ∨ ((Itl K a).go k H ∧ ∃ Nx : Hp → Prop, (∀ H', Nx H' → ∃ m', m' < m ∧ W (k + 1) m' H') ∧ ∀ x H', (Itl K a).yld k H x H' → gName i x (wipe σ vs) H' fun σ2 H2 => wipe σ2 vs = wipe σ vs ∧ tt σ2 H2 fun b H3 =>
        if b = true then te σ2 H3 fun y H4 => ∃ acc, H4 D = some (.lst acc) ∧ acc.length < sizeLine ∧ Nx (upd H4 D (.lst (acc ++ [y]))) else Nx H3) :=
  lc_it (walk_list (xs := xs)) (fun _ H2 => Same H1 H2 ∧ H2 D = some (.lst [])) ⟨same_new hD, upd_same⟩ (fun k H2 _ hW => SqL.of (hW.1 _ _ hL))
    (fun k x H2 H3 hk hW hY => by
      obtain ⟨rfl, hx⟩ := hY
      exact ⟨hw x, ht x _ _ (List.mem_of_getElem? hx) hW.1 (iteF hW)⟩) (fun H2 hW => hd H2 hW.1 hW.2)
end El
namespace El
open PySem PySem.Spec PyProof.Rows L2
theorem kit_su {K : PySem.W.Frag} {C D : Addr} (h : PySem.W.subIn K (.ref C) (.ref D) = some true) (hc : PySem.W.isClsIn K D = true) (ht : PySem.W.typeIn K (.ref D) = some (.type "type")) : PySem.W.kitOne K (.ref C) (.ref D) = some true := by
  unfold PySem.W.kitOne
  split
  · rfl
  · have h1 : (PySem.W.clsIn K D).isSome = true := hc
    show (if ((PySem.W.clsIn K D).isSome && PySem.W.typeIn K (.ref D) == some (.type "type")) = true then PySem.W.subIn K (.ref C) (.ref D) else none) = _
    rw [h1, ht, h]
    rfl
/-- the bare error's class -/
structure BareK (K : PySem.W.Frag) (mg : Str → Option Value) (C0 : Addr) : Prop where
  g : mg "InnError" = some (.ref C0)
  q : PySem.W.excIn K C0 [.type "ValueError", .type "Exception", .type "BaseException", .type "object"] "ValueError.__new__" = true
  kp : PySem.W.keepIn K (.ref C0) = true
  c : BareC K C0
/-- each of them is an InnError and a ValueError -/
def KErr (K : PySem.W.Frag) (C0 : Addr) (Cs : List Addr) : Prop := ∀ D ∈ Cs, PySem.W.kitOne K (.ref D) (.ref C0) = some true ∧ PySem.W.kitOne K (.ref D) (.type "ValueError") = some true
section
variable {P : Program} {w : World} {K : PySem.W.Frag} {mg : Str → Option Value} {base : Heap}
abbrev s__law_errors_right : Stmt := topS 19
abbrev N__law_errors_right : List Str := ["some", "bare", "one"]
abbrev P__law_errors_right : List Str := []
theorem sc__law_errors_right : FnScope N__law_errors_right P__law_errors_right (defScope s__law_errors_right) := ⟨rfl, rfl, rfl, by decide +kernel, rfl, by decide +kernel, by decide +kernel⟩
def sp__law_errors_right : Sp := fun vs H Q _ => vs = [] ∧ ∀ H', Same H H' → Q (.bl true) H'
theorem ok__law_errors_right {C0 CG CS CR CC CT : Addr} (A : At K mg "_law_errors_right" P__law_errors_right s__law_errors_right) (B : Bi mg) (JX : IsX K) (G_InnError : mg "InnError" = some (.ref C0)) (KX_InnError : BareK K mg C0) (KE : KErr K C0 [CG, CS, CR, CC, CT, C0])
    (O_NoGuest : OwnW P w K mg base "NoGuest" CG) (O_NoRooms : OwnW P w K mg base "NoRooms" CS) (OK_NoRoom : OwnK P w K mg base "NoRoom" CR) (O_NoCrowd : OwnW P w K mg base "NoCrowd" CC) (OK_NoText : OwnK P w K mg base "NoText" CT) :
    Df P w K mg base 3 "_law_errors_right" P__law_errors_right s__law_errors_right sp__law_errors_right := by
  refine A.df fun f fd F => F.ok sc__law_errors_right (fun vs H Q E h => ?_) (fun cdv AA outer s H vs Q E hr h => ?_)
  · obtain ⟨rfl, _⟩ := h
    rfl
  · obtain ⟨rfl, q⟩ := h
    have nd := sc__law_errors_right.nd
    refine ⟨_, (pss_cons (ps_set (i := 0) nd rfl (.inl rfl) (pe_lst (pa_cons (pe_err K mg O_NoGuest (hr.mono (by decide)) (pa_cons (pe_tup (pa_cons pe_int (pa_cons (pe_un un_neg pe_int) pa_nil))) pa_nil) (by rfl)) (pa_cons (pe_err K mg O_NoRooms (hr.mono (by decide)) (pa_cons (pe_un un_neg pe_int) pa_nil) (by rfl)) (pa_cons (pe_errK K mg OK_NoRoom (hr.mono (by decide)) (pk_cons pe_non pk_nil) (by rfl)) (pa_cons (pe_err K mg O_NoCrowd (hr.mono (by decide)) (pa_cons pe_int pa_nil) (by rfl)) (pa_cons (pe_errK K mg OK_NoText (hr.mono (by decide)) (pk_cons pe_str pk_nil) (by rfl)) pa_nil)))))))
    (pss_cons (ps_if (pt_cmpR (op_neD hr.units) (pe_lc (own := [("one", 2)]) (tt := tYes) rfl nd (pi_list (pv 0)) (blkOk_by (N := N__law_errors_right) (sc := defScope s__law_errors_right) (by decide +kernel)) (fun _ _ _ _ _ => (pg_name (i := 2) nd rfl (.inl rfl))) (fun _ _ _ _ _ => pts_nil) (fun _ _ _ _ _ => (pe_what K mg (pv 2)))) (pe_lst (pa_cons (pe_tup (pa_cons pe_int (pa_cons (pe_un un_neg pe_int) pa_nil))) (pa_cons (pe_un un_neg pe_int) (pa_cons pe_non (pa_cons pe_int (pa_cons pe_str pa_nil)))))) (nomark _)) (pss_one (ps_ret pe_bl)) pss_nil)
    (pss_cons (ps_set (i := 1) nd rfl (.inl rfl) (pe_exc1 PySem.F.excBase_ValueError KX_InnError.q KX_InnError.g KX_InnError.kp (by rfl) pe_str))
    (pss_one (ps_ret (pe_cmpR (op_eqD hr.units) (pe_lc (own := [("one", 2)]) rfl nd (pi_list (pe_op op_cat (pv 0) (pe_lst (pa_cons (pv 1) pa_nil)))) (blkOk_by (N := N__law_errors_right) (sc := defScope s__law_errors_right) (by decide +kernel)) (fun _ _ _ _ _ => (pg_name (i := 2) nd rfl (.inl rfl))) (fun _ _ _ _ _ => (pts_one (PW.pt (pw_or (pt_not (pt_val (pe_callB (call_isB K mg) (by rfl) B.isinstance (by decide +kernel) (pa_cons (pv 2) (pa_cons (pe_glob rfl G_InnError (relRef _)) pa_nil))))) (pw_or1 (pt_not (pt_val (pe_callB (call_isB K mg) (by rfl) B.isinstance (by decide +kernel) (pa_cons (pv 2) (pa_cons (pe_bltn (by rfl) B.ValueError_ bootVE (relTy _)) pa_nil)))))))))) (fun _ _ _ _ _ => pe_int)) (pe_lst pa_nil) (nomark _))))))), ?_⟩
    refine ⟨_, rfl, (by show 2 ≤ sizeLine; decide), fun t nt => ⟨.ref t, rfl, .inr (.inr ⟨t, 3, -1, rfl, upd_same, by decide, by decide⟩), fun a1 H1 s1 n1 x1 => ?_⟩⟩
    refine ⟨_, rfl, .int (-4), rfl, .inl (.inl ⟨_, rfl, by decide⟩), fun a2 H2 s2 n2 x2 => ?_⟩
    refine ⟨.non, rfl, .inr (.inl rfl), fun a3 H3 s3 n3 x3 => ?_⟩
    refine ⟨.int 2, rfl, .inl (.inl ⟨_, rfl, by decide⟩), fun a4 H4 s4 n4 x4 => ?_⟩
    refine ⟨.str "1:", rfl, .inl (.inr ⟨_, rfl, by decide +kernel⟩), fun a5 H5 s5 n5 x5 => ?_⟩
    refine ⟨(by show 5 ≤ sizeLine; decide), fun L nL => ?_⟩
    have s0 := same_new (o := .tup [.int 3, .int (-1)]) nt
    have s6 := same_new (o := .lst [.ref a1, .ref a2, .ref a3, .ref a4, .ref a5]) nL
    have et := s6 _ _ (s5 _ _ (s4 _ _ (s3 _ _ (s2 _ _ (s1 _ _ (show upd H t (.tup [.int 3, .int (-1)]) t = _ from upd_same))))))
    have k1 := ((((x1.keep s2).keep s3).keep s4).keep s5).keep s6
    have k2 := (((x2.keep s3).keep s4).keep s5).keep s6
    have k3 := ((x3.keep s4).keep s5).keep s6
    have k4 := (x4.keep s5).keep s6
    have k5 := x5.keep s6
    have sH := s0.trans (s1.trans (s2.trans (s3.trans (s4.trans (s5.trans s6)))))
    have all : ∀ (k : Nat) (x y : V), ([.ref a1, .ref a2, .ref a3, .ref a4, .ref a5] : List V)[k]? = some x → ([.ref t, .int (-4), .non, .int 2, .str "1:"] : List V)[k]? = some y → ∃ a D, D ∈ [CG, CS, CR, CC, CT, C0] ∧ x = .ref a ∧ ExcAt K mg (upd H5 L (.lst [.ref a1, .ref a2, .ref a3, .ref a4, .ref a5])) a D y := by
      intro k x y ex ey
      match k, ex, ey with
      | 0, ex, ey => cases ex; cases ey; exact ⟨a1, CG, by simp, rfl, k1⟩
      | 1, ex, ey => cases ex; cases ey; exact ⟨a2, CS, by simp, rfl, k2⟩
      | 2, ex, ey => cases ex; cases ey; exact ⟨a3, CR, by simp, rfl, k3⟩
      | 3, ex, ey => cases ex; cases ey; exact ⟨a4, CC, by simp, rfl, k4⟩
      | 4, ex, ey => cases ex; cases ey; exact ⟨a5, CT, by simp, rfl, k5⟩
      | k + 5, ex, _ => cases ex
    refine ⟨.ref L, rfl, L, rfl, ⟨_, SqL.of upd_same⟩, fun D nD => ?_⟩
    refine lc_vals (ys := [.ref t, .int (-4), .non, .int 2, .str "1:"]) upd_same nD rfl (by show 5 ≤ 1000; decide) (fun k x y H' ex ey sm QQ qq => ?_) (fun _ => rfl) (fun H7 s7 e7 => ?_)
    · obtain ⟨a, Dx, _, rfl, hx⟩ := all k x y ex ey
      exact ⟨.ref a, rfl, a, Dx, y, rfl, hx.keep sm, qq⟩
    refine ⟨_, rfl, (by show 2 ≤ sizeLine; decide), fun u nu => ⟨_, rfl, (by show 5 ≤ sizeLine; decide), fun M nM => ?_⟩⟩
    have s8 := same_new (o := .tup [.int 3, .int (-1)]) nu
    have s9 := same_new (o := .lst [.ref u, .int (-4), .non, .int 2, .str "1:"]) nM
    refine ⟨.list [.tuple [.int 3, .int (-1)], .int (-4), .none, .int 2, .str "1:"], .list [.tuple [.int 3, .int (-1)], .int (-4), .none, .int 2, .str "1:"],
      .lst (SqL.of (s9 _ _ (s8 _ _ e7))) (.cons (.tup (SqT.of (s9 _ _ (s8 _ _ (s7 _ _ et)))) (.cons (.int _) (.cons (.int _) .nil))) (.cons (.int _) (.cons .non (.cons (.int _) (.cons (.str _) .nil))))),
      .lst (SqL.of upd_same) (.cons (.tup (SqT.of (s9 _ _ (show upd H7 u (.tup [.int 3, .int (-1)]) u = _ from upd_same))) (.cons (.int _) (.cons (.int _) .nil))) (.cons (.int _) (.cons .non (.cons (.int _) (.cons (.str _) .nil))))), by decide +kernel, by decide +kernel, ?_⟩
    refine ⟨_, rfl, iteX (by decide +kernel) ?_⟩
    dsimp only [tNext]
    refine fun b nb => ?_
    have s10 := same_new (o := ExO (.ref C0) b) nb
    dsimp only [gName]
    have eL := s10 _ _ (s9 _ _ (s8 _ _ (s7 _ _ (show upd H5 L (.lst [.ref a1, .ref a2, .ref a3, .ref a4, .ref a5]) L = _ from upd_same))))
    have sA := s7.trans (s8.trans (s9.trans s10))
    have eb : upd (upd (upd H7 u (.tup [.int 3, .int (-1)])) M (.lst [.ref u, .int (-4), .non, .int 2, .str "1:"])) b (ExO (.ref C0) b) b = some (ExO (.ref C0) b) := upd_same
    refine ⟨.ref L, rfl, .ref b, rfl, (by show 1 ≤ sizeLine; decide), fun c nc => ⟨L, c, _, _, rfl, rfl, same_new nc _ _ eL, upd_same, (by show 5 + 1 ≤ sizeLine; decide), fun e ne => ⟨e, rfl, ⟨_, SqL.of upd_same⟩, fun D2 nD2 => ?_⟩⟩⟩
    have s11 := same_new (o := .lst [.ref b]) nc
    have s12 := same_new (o := .lst ([.ref a1, .ref a2, .ref a3, .ref a4, .ref a5] ++ [.ref b])) ne
    refine lc_none upd_same nD2 (fun x H' QQ mx sm qq => ?_) (fun _ => rfl) (fun H8 s8' e8 => ?_)
    · rcases List.mem_append.mp mx with mx | mx
      · obtain ⟨k, ek⟩ := List.getElem?_of_mem mx
        obtain ⟨y, ey⟩ := at_some (l := ([.ref t, .int (-4), .non, .int 2, .str "1:"] : List V)) (i := k) (by have hk := at_lt ek; exact hk)
        obtain ⟨a, Dx, mD, rfl, hx⟩ := all k x y ek ey
        have hx' := (((hx.keep sA).keep s11).keep s12).keep sm
        refine ⟨.ref a, rfl, .inl ⟨a, Dx, y, hx', JX, .inl ⟨.ref C0, .ref C0, true, rfl, fun u r => r, (KE Dx mD).1, true, rfl, iteF ?_⟩⟩⟩
        exact ⟨.ref a, rfl, .inl ⟨a, Dx, y, hx', JX, .inl ⟨.ty "ValueError", .type "ValueError", true, rfl, fun u r => r, (KE Dx mD).2, true, rfl, qq⟩⟩⟩
      · obtain rfl := List.mem_singleton.mp mx
        have eb' := sm _ _ (s12 _ _ (s11 _ _ eb))
        refine ⟨.ref b, rfl, .inr ⟨b, C0, eb', KX_InnError.c, JX, .ref C0, .ref C0, true, rfl, fun u r => r, (KE C0 (by simp)).1, true, rfl, iteF ?_⟩⟩
        exact ⟨.ref b, rfl, .inr ⟨b, C0, eb', KX_InnError.c, JX, .ty "ValueError", .type "ValueError", true, rfl, fun u r => r, (KE C0 (by simp)).2, true, rfl, qq⟩⟩
    · refine ⟨(by show 0 ≤ sizeLine; decide), fun N nN => ⟨.list [], .list [], .lst (SqL.of (same_new nN _ _ e8)) .nil, .lst (SqL.of upd_same) .nil, by decide, by decide, ?_⟩⟩
      exact q _ (sH.trans (sA.trans (s11.trans (s12.trans (s8'.trans (same_new nN))))))
end
end El
namespace El
open PySem PySem.Spec PyProof.Rows L2
/-! ### what is asked and what is due, written out as lists -/
/-- a reading that tells a number and changes nothing -/
def Says (t : TE) (σ : L2.St) (z : Int) : Prop := ∀ (H : Hp) (Q : VK), Q (.int z) H → t σ H Q
theorem says_var {σ : L2.St} {i : Nat} {z : Int} (h : σ[i]? = some (some (.int z))) : Says (tVar i) σ z := fun _ _ q => ⟨_, h, q⟩
theorem says_int {σ : L2.St} (z : Int) : Says (tC (.int z)) σ z := fun _ _ q => q
theorem AskAt.reB {H : Hp} {B B' : Addr → Prop} {o : Addr} {ts : List Addr} {as : List (Str × Int × Int)} (h : AskAt H B o ts as) (k : ∀ b, B b → B' b) : AskAt H B' o ts as := ⟨h.top, h.len, h.at', k _ h.ba, fun t m => k _ (h.b t m)⟩
/-- the tuples by themselves -/
structure TupsAt (H : Hp) (B : Addr → Prop) (ts : List Addr) (as : List (Str × Int × Int)) : Prop where
  len : ts.length = as.length
  at' : ∀ (i : Nat) (t : Addr) (x : Str × Int × Int), ts[i]? = some t → as[i]? = some x → H t = some (.tup [.str x.1, .int x.2.1, .int x.2.2])
  b : ∀ t ∈ ts, B t
def tAsks : List (Str × TE × TE) → TA
  | [] => tNil
  | x :: l => tCons (tTup (tCons (tC (.str x.1)) (tCons x.2.1 (tCons x.2.2 tNil)))) (tAsks l)
inductive Lit (σ : L2.St) : List (Str × TE × TE) → List (Str × Int × Int) → Prop
  | nil : Lit σ [] []
  | cons {w : Str} {ta tb : TE} {a b : Int} {l : List (Str × TE × TE)} {as : List (Str × Int × Int)} : Says ta σ a → Says tb σ b → Lit σ l as → Lit σ ((w, ta, tb) :: l) ((w, a, b) :: as)
theorem Lit.run {σ : L2.St} {l : List (Str × TE × TE)} {as : List (Str × Int × Int)} (h : Lit σ l as) : ∀ {H : Hp} {P : List V → Hp → Prop}, (∀ (H' : Hp) (ts : List Addr), Same H H' → TupsAt H' (fun b => H b = none) ts as → P (ts.map V.ref) H') → tAsks l σ H P := by
  induction h with
  | nil => exact fun {H P} q => q H [] (Same.refl _) ⟨rfl, fun i t x e _ => by simp at e, fun t m => by simp at m⟩
  | @cons w ta tb a b l as sa sb _ ih =>
    intro H P q
    refine sa _ _ (sb _ _ ⟨(by show 3 ≤ sizeLine; decide), fun p np => ih fun H' ts s T => ?_⟩)
    have sp := same_new (o := .tup [.str w, .int a, .int b]) np
    refine q H' (p :: ts) (sp.trans s) ⟨by rw [List.length_cons, List.length_cons, T.len], fun i t x et ex => ?_, fun t m => ?_⟩
    · cases i with
      | zero =>
        obtain rfl : p = t := Option.some.inj et
        obtain rfl : (w, a, b) = x := Option.some.inj ex
        exact s _ _ upd_same
      | succ i => exact T.at' i t x et ex
    · rcases List.mem_cons.mp m with rfl | m
      · exact np
      · exact sp.free (T.b t m)
theorem Lit.lst {σ : L2.St} {l : List (Str × TE × TE)} {as : List (Str × Int × Int)} (h : Lit σ l as) (hl : as.length ≤ 1000) {H : Hp} {Q : VK} (q : ∀ (H' : Hp) (r : Addr) (ts : List Addr), Same H H' → AskAt H' (fun b => H b = none) r ts as → Q (.ref r) H') : tLst (tAsks l) σ H Q := by
  refine h.run fun H' ts s T => ⟨?_, fun r nr => ?_⟩
  · rw [List.length_map, T.len]
    exact ile (Nat.le_trans hl (by decide))
  · have sr := same_new (o := .lst (ts.map V.ref)) nr
    exact q _ r ts (s.trans sr) ⟨upd_same, T.len, fun i t x et ex => sr _ _ (T.at' i t x et ex), s.free nr, T.b⟩
theorem AskAt.push {H : Hp} {B : Addr → Prop} {o tt : Addr} {ts : List Addr} {as : List (Str × Int × Int)} {x : Str × Int × Int} (h : AskAt H B o ts as) (et : H tt = some (.tup [.str x.1, .int x.2.1, .int x.2.2])) (bt : B tt) :
    AskAt (upd H o (.lst (ts.map V.ref ++ [.ref tt]))) B o (ts ++ [tt]) (as ++ [x]) := by
  have ne : ∀ {b : Addr} {xs : List V}, H b = some (.tup xs) → b ≠ o := fun e z => by
    rw [z, h.top] at e
    cases e
  refine ⟨by rw [upd_same, List.map_append]; rfl, by rw [List.length_append, List.length_append, h.len]; rfl, fun i t y e1 e2 => ?_, h.ba, fun t m => ?_⟩
  · rcases Nat.lt_or_ge i ts.length with hi | hi
    · rw [List.getElem?_append_left hi] at e1
      rw [List.getElem?_append_left (by rw [← h.len]; exact hi)] at e2
      have e := h.at' i t y e1 e2
      rw [upd_ne (ne e)]
      exact e
    · have hi' : i = ts.length := by
        have := at_lt e1
        rw [List.length_append, List.length_singleton] at this
        omega
      subst hi'
      rw [List.getElem?_append_right (Nat.le_refl _), Nat.sub_self] at e1
      rw [h.len, List.getElem?_append_right (Nat.le_refl _), Nat.sub_self] at e2
      obtain rfl : tt = t := Option.some.inj e1
      obtain rfl : x = y := Option.some.inj e2
      rw [upd_ne (ne et)]
      exact et
  · rcases List.mem_append.mp m with m | m
    · exact h.b t m
    · rw [List.mem_singleton.mp m]
      exact bt
/-- one list behind another, as a new one -/
theorem AskAt.cat {H : Hp} {B : Addr → Prop} {o o2 r : Addr} {ts ts2 : List Addr} {as as2 : List (Str × Int × Int)} (h : AskAt H B o ts as) (h2 : AskAt H B o2 ts2 as2) (nr : H r = none) (br : B r) : AskAt (upd H r (.lst (ts.map V.ref ++ ts2.map V.ref))) B r (ts ++ ts2) (as ++ as2) := by
  have sr := same_new (o := .lst (ts.map V.ref ++ ts2.map V.ref)) nr
  refine ⟨by rw [upd_same, List.map_append], by rw [List.length_append, List.length_append, h.len, h2.len], fun i t y e1 e2 => ?_, br, fun t m => (List.mem_append.mp m).elim (h.b t) (h2.b t)⟩
  rcases Nat.lt_or_ge i ts.length with hi | hi
  · rw [List.getElem?_append_left hi] at e1
    rw [List.getElem?_append_left (by rw [← h.len]; exact hi)] at e2
    exact sr _ _ (h.at' i t y e1 e2)
  · rw [List.getElem?_append_right hi] at e1
    rw [List.getElem?_append_right (by rw [← h.len]; exact hi), ← h.len] at e2
    exact sr _ _ (h2.at' _ t y e1 e2)
/-! ### due -/
inductive DueE
  | one (t : TE)
  | two (ta tb : TE)
  | no
def tDue : DueE → TE
  | .one t => tLst (tCons t tNil)
  | .two ta tb => tLst (tCons (tTup (tCons ta (tCons tb tNil))) tNil)
  | .no => tLst tNil
def tDues : List DueE → TA
  | [] => tNil
  | x :: l => tCons (tDue x) (tDues l)
inductive DLit (σ : L2.St) : List DueE → List PyData → Prop
  | nil : DLit σ [] []
  | one {t : TE} {z : Int} {l : List DueE} {ds : List PyData} : Says t σ z → DLit σ l ds → DLit σ (.one t :: l) (.list [.int z] :: ds)
  | two {ta tb : TE} {a b : Int} {l : List DueE} {ds : List PyData} : Says ta σ a → Says tb σ b → DLit σ l ds → DLit σ (.two ta tb :: l) (.list [.tuple [.int a, .int b]] :: ds)
  | no {l : List DueE} {ds : List PyData} : DLit σ l ds → DLit σ (.no :: l) (.list [] :: ds)
section
variable {K : PySem.W.Frag}
theorem Told.reB {Z Z' : Addr → Prop} {H : Hp} {vs : List V} {ds : List PyData} (h : Told K Z H vs ds) (z : ∀ b, Z b → Z' b) : Told K Z' H vs ds := ⟨h.1, fun i v d e f H' k => h.2 i v d e f H' (k.weak z)⟩
theorem Told.cons {Z : Addr → Prop} {H : Hp} {vs : List V} {ds : List PyData} {v : V} {d : PyData} (h : Told K Z H vs ds) (n : ∀ H', Kp Z H H' → Dp K H' v d) : Told K Z H (v :: vs) (d :: ds) := by
  refine ⟨by rw [List.length_cons, List.length_cons, h.1], fun i w e ev ed H' k => ?_⟩
  cases i with
  | zero =>
    obtain rfl : v = w := Option.some.inj ev
    obtain rfl : d = e := Option.some.inj ed
    exact n H' k
  | succ i => exact h.2 i w e ev ed H' k
theorem Told.cat {Z : Addr → Prop} {H : Hp} {vs ws : List V} {ds es : List PyData} (h : Told K Z H vs ds) (h2 : Told K Z H ws es) : Told K Z H (vs ++ ws) (ds ++ es) := by
  refine ⟨by rw [List.length_append, List.length_append, h.1, h2.1], fun i w e ev ed H' k => ?_⟩
  rcases Nat.lt_or_ge i vs.length with hi | hi
  · rw [List.getElem?_append_left hi] at ev
    rw [List.getElem?_append_left (by rw [← h.1]; exact hi)] at ed
    exact h.2 i w e ev ed H' k
  · rw [List.getElem?_append_right hi] at ev
    rw [List.getElem?_append_right (by rw [← h.1]; exact hi), ← h.1] at ed
    exact h2.2 _ w e ev ed H' k
/-- a list of such things -/
structure DueAt (K : PySem.W.Frag) (H : Hp) (Z : Addr → Prop) (r : Addr) (vs : List V) (ds : List PyData) : Prop where
  top : H r = some (.lst vs)
  z : Z r
  told : Told K Z H vs ds
theorem DueAt.keep {H H' : Hp} {Z : Addr → Prop} {r : Addr} {vs : List V} {ds : List PyData} (h : DueAt K H Z r vs ds) (k : Kp Z H H') : DueAt K H' Z r vs ds := ⟨k _ _ h.z h.top, h.z, h.told.keep k⟩
theorem DueAt.reB {H : Hp} {Z Z' : Addr → Prop} {r : Addr} {vs : List V} {ds : List PyData} (h : DueAt K H Z r vs ds) (z : ∀ b, Z b → Z' b) : DueAt K H Z' r vs ds := ⟨h.top, z _ h.z, h.told.reB z⟩
theorem DueAt.dp {H : Hp} {Z : Addr → Prop} {r : Addr} {vs : List V} {ds : List PyData} (h : DueAt K H Z r vs ds) : Dp K H (.ref r) (.list ds) := .lst (SqL.of h.top) (dpAll_of h.told.1 fun i w e ev ee => h.told.2 i w e ev ee H Kp.refl)
theorem DueAt.live {H : Hp} {Z : Addr → Prop} {r : Addr} {vs : List V} {ds : List PyData} (h : DueAt K H Z r vs ds) : DueAt K H (fun b => Z b ∧ ∃ v, H b = some v) r vs ds :=
  ⟨h.top, ⟨h.z, _, h.top⟩, h.told.1, fun i v d e f H' k => h.told.2 i v d e f H' fun b u hb eb => k b u ⟨hb, _, eb⟩ eb⟩
theorem DLit.run {σ : L2.St} {l : List DueE} {ds : List PyData} (h : DLit σ l ds) : ∀ {H : Hp} {P : List V → Hp → Prop}, (∀ (H' : Hp) (vs : List V), Same H H' → Told K (fun b => H b = none) H' vs ds → P vs H') → tDues l σ H P := by
  induction h with
  | nil => exact fun {H P} q => q H [] (Same.refl _) ⟨rfl, fun i v d e _ => by simp at e⟩
  | @one t z l ds sz _ ih =>
    intro H P q
    refine sz _ _ ⟨(by show 1 ≤ sizeLine; decide), fun p np => ih fun H' vs s T => ?_⟩
    have sp := same_new (o := .lst [.int z]) np
    exact q H' (.ref p :: vs) (sp.trans s) ((T.reB fun b e => sp.free e).cons fun H'' k => .lst (SqL.of (k _ _ np (s _ _ upd_same))) (.cons (.int _) .nil))
  | @two ta tb a b l ds sa sb _ ih =>
    intro H P q
    refine sa _ _ (sb _ _ ⟨(by show 2 ≤ sizeLine; decide), fun u nu => ⟨(by show 1 ≤ sizeLine; decide), fun p np => ih fun H' vs s T => ?_⟩⟩)
    have su := same_new (o := .tup [.int a, .int b]) nu
    have sp := same_new (o := .lst [.ref u]) np
    have eu := s _ _ (sp _ _ (show upd H u (.tup [.int a, .int b]) u = _ from upd_same))
    exact q H' (.ref p :: vs) (su.trans (sp.trans s)) ((T.reB fun b e => su.free (sp.free e)).cons fun H'' k => .lst (SqL.of (k _ _ (su.free np) (s _ _ upd_same))) (.cons (.tup (SqT.of (k _ _ nu eu)) (.cons (.int _) (.cons (.int _) .nil))) .nil))
  | @no l ds _ ih =>
    intro H P q
    refine ⟨(by show 0 ≤ sizeLine; decide), fun p np => ih fun H' vs s T => ?_⟩
    have sp := same_new (o := .lst []) np
    exact q H' (.ref p :: vs) (sp.trans s) ((T.reB fun b e => sp.free e).cons fun H'' k => .lst (SqL.of (k _ _ np (s _ _ upd_same))) .nil)
theorem DLit.lst {σ : L2.St} {l : List DueE} {ds : List PyData} (h : DLit σ l ds) (hl : ds.length ≤ 1000) {H : Hp} {Q : VK} (q : ∀ (H' : Hp) (r : Addr) (vs : List V), Same H H' → DueAt K H' (fun b => H b = none) r vs ds → Q (.ref r) H') : tLst (tDues l) σ H Q := by
  refine h.run (K := K) fun H' vs s T => ⟨?_, fun r nr => ?_⟩
  · rw [T.1]
    exact ile (Nat.le_trans hl (by decide))
  · have sr := same_new (o := .lst vs) nr
    exact q _ r vs (s.trans sr) ⟨upd_same, s.free nr, T.keep (Kp.of sr)⟩
theorem DueAt.cat {H : Hp} {Z : Addr → Prop} {o o2 r : Addr} {vs ws : List V} {ds es : List PyData} (h : DueAt K H Z o vs ds) (h2 : DueAt K H Z o2 ws es) (nr : H r = none) (zr : Z r) : DueAt K (upd H r (.lst (vs ++ ws))) Z r (vs ++ ws) (ds ++ es) :=
  ⟨upd_same, zr, (h.told.cat h2.told).keep (Kp.of (same_new nr))⟩
end
/-! ### the Inn of the law -/
theorem One.live {C : Addr} {H5 H8 : Hp} {t g x d o : Addr} {n : Nat} {Z BB : Addr → Prop} {ts : List Addr} {gi : List (Int × Int)} (h : One C H5 t g x d o n Z BB ts gi H8) : One C H5 t g x d o n Z (fun b => BB b ∧ ∃ v, H8 b = some v) ts gi H8 :=
  { h with i := h.i.reB fun b z hb => ⟨hb, z⟩, bz := fun b hb => h.bz b hb.1, b5 := fun b hb => h.b5 b hb.1 }
/-- new things are set apart too -/
theorem One.also {C : Addr} {H5 H8 H9 : Hp} {t g x d o : Addr} {n : Nat} {Z Z' BB : Addr → Prop} {ts : List Addr} {gi : List (Int × Int)} (h : One C H5 t g x d o n Z BB ts gi H8) (s : Same H8 H9) (nz : ∀ b, Z' b → H8 b = none) (zl : ∀ b, Z' b → ∃ v, H9 b = some v) :
    One C H5 t g x d o n (fun b => Z b ∨ Z' b) (fun b => BB b ∧ ∃ v, H8 b = some v) ts gi H9 := by
  have h2 := h.live.same s
  exact { h2 with bz := fun b hb z => z.elim (h.bz b hb.1) fun z => dead_live (nz b z) hb.2, zl := fun b z => z.elim (h2.zl b) (zl b), z5 := fun b z => z.elim (h.z5 b) fun z => h.v b (nz b z) }
theorem Aw.kept {K : PySem.W.Frag} {C : Addr} {B : Addr → Prop} {H H2 : Hp} {p d o D : Addr} {gs' : List (Int × Int)} {ds : List PyData} {rest : List (Str × Int × Int)} {j : Nat} (A : Aw K C B H p d o D gs' ds rest j H2) : Kp (fun b => ¬ B b) H H2 := by
  obtain ⟨_, _, _, _, _, _, _, _, _, _, _, _, _, _, _, k, _⟩ := A.ex
  exact k
/-- guests, rooms and how many there are -/
structure Tri (H : Hp) (Z : Addr → Prop) (th : Addr) (gs : List (Int × Int)) (rs : List (List Int)) (n : Int) : Prop where
  ex : ∃ (p1 p2 : Addr) (us1 us2 : List Addr), H th = some (.tup [.ref p1, .ref p2, .int n]) ∧ GsAt H Z p1 us1 gs ∧ RmsAt H Z p2 us2 rs
  z : Z th
theorem Tri.keep {H H' : Hp} {Z : Addr → Prop} {th : Addr} {gs : List (Int × Int)} {rs : List (List Int)} {n : Int} (h : Tri H Z th gs rs n) (k : Kp Z H H') : Tri H' Z th gs rs n :=
  let ⟨p1, p2, us1, us2, e, G, R⟩ := h.ex
  ⟨⟨p1, p2, us1, us2, k _ _ h.z e, G.keep k, R.keep k⟩, h.z⟩
def dTri (gs : List (Int × Int)) (rs : List (List Int)) (n : Int) : PyData := .tuple [dGs gs, dRows rs, .int n]
theorem Oks.tri (gs : List (Int × Int)) (rs : List (List Int)) (n : Int) : Oks 3 (dTri gs rs n) := .tup fun x m => by
  rcases List.mem_cons.mp m with rfl | m
  · exact .gs gs
  rcases List.mem_cons.mp m with rfl | m
  · exact .rows rs
  · rw [List.mem_singleton.mp m]
    exact (Oks.int n).mono (by decide)
theorem Tri.dp {K : PySem.W.Frag} {H : Hp} {Z : Addr → Prop} {th : Addr} {gs : List (Int × Int)} {rs : List (List Int)} {n : Int} (h : Tri H Z th gs rs n) : Dp K H (.ref th) (dTri gs rs n) :=
  let ⟨_, _, _, _, e, G, R⟩ := h.ex
  .tup (SqT.of e) (.cons G.dp (.cons R.dp (.cons (.int _) .nil)))
theorem Tri.reB {H : Hp} {Z Z' : Addr → Prop} {th : Addr} {gs : List (Int × Int)} {rs : List (List Int)} {n : Int} (h : Tri H Z th gs rs n) (z : ∀ b, Z b → (∃ v, H b = some v) → Z' b) : Tri H Z' th gs rs n :=
  let ⟨p1, p2, us1, us2, e, G, R⟩ := h.ex
  ⟨⟨p1, p2, us1, us2, e, G.reB fun b m hb => z b hb (G.there b m), R.reL fun b l hb => z b hb l⟩, z _ h.z ⟨_, e⟩⟩
/-- (made.guests(), made.rooms(), len(made)) -/
theorem ask_tri {C : Addr} {H5 Hi : Hp} {t g x d o : Addr} {n j : Nat} {Z BB : Addr → Prop} {ts : List Addr} {gk : List (Int × Int)} {σ : L2.St} {Q : VK} (W : One C H5 t g x d o n Z BB ts gk Hi) (hσ : σ[j]? = some (some (.ref x))) (F : Fit gk) (hl : gk.length ≤ 400)
    (h : ∀ (H' : Hp) (tp : Addr), Same Hi H' → Tri H' (fun b => Hi b = none) tp (byAge gk) (settle gk) gk.length → Q (.ref tp) H') :
    tTup (tCons (tMeth C "guests" (sp_Inn_guests C) [] E0 (tVar j) tNil) (tCons (tMeth C "rooms" (sp_Inn_rooms C) [] E0 (tVar j) tNil) (tCons (tCB (rLenO C (sp_Inn___len__ C)) (tCons (tVar j) tNil)) tNil))) σ Hi Q := by
  have lset : (settle gk).length ≤ 400 := by
    have := settleL_len (byAge gk)
    rw [byAge_length] at this
    exact Nat.le_trans this hl
  obtain ⟨dxi, hpi⟩ := W.i.ob
  refine ⟨.ref x, hσ, x, dxi, _, rfl, hpi, iflds_no _ _ (by decide +kernel) (by decide +kernel), _, x, d, o, ts, gk, _, rfl, W.i, F, by omega, fun Hk q1 us1 s1 Gk => ?_⟩
  have Wk := W.same s1
  obtain ⟨dxk, hpk⟩ := Wk.i.ob
  refine ⟨.ref x, hσ, x, dxk, _, rfl, hpk, iflds_no _ _ (by decide +kernel) (by decide +kernel), _, x, d, o, ts, gk, _, rfl, Wk.i, by omega, fun Hl q2 us2 s2 Rl => ?_⟩
  have Wl := Wk.same s2
  obtain ⟨dxl, hpl⟩ := Wl.i.ob
  refine ⟨.ref x, hσ, x, dxl, _, rfl, hpl, _, x, d, o, ts, gk, _, rfl, Wl.i, _, rfl, by omega, by omega, (by show 3 ≤ sizeLine; decide), fun th nth => ?_⟩
  have s3 := same_new (o := .tup [.ref q1, .ref q2, .int gk.length]) nth
  refine h _ th (s1.trans (s2.trans s3)) ⟨⟨q1, q2, us1, us2, upd_same, Gk.same (s2.trans s3), (Rl.same s3).reL fun b _ e => s1.free e⟩, (s1.trans s2).free nth⟩
theorem Asks.comes : ∀ {l gs : List (Int × Int)}, Fit (gs ++ l) → Asks gs (l.map fun g => (("come" : Str), g.1, g.2)) (gs ++ l) (l.map fun _ => .list [])
  | [], gs, _ => by
    rw [List.append_nil]
    exact .nil
  | g :: l, gs, F => by
    have e : gs ++ g :: l = (gs ++ [g]) ++ l := by rw [List.append_assoc]; rfl
    rw [e] at F ⊢
    have F1 : Fit (gs ++ [g]) := ⟨by have := F.nd; rw [List.map_append] at this; exact (List.nodup_append.mp this).1, fun z m => F.pos z (List.mem_append_left _ m)⟩
    exact .come F1 (Asks.comes F)
end El
namespace El
open PySem PySem.Spec PyProof.Rows L2
section
variable {P : Program} {w : World} {K : PySem.W.Frag} {mg : Str → Option Value} {base : Heap}
abbrev s_law : Stmt := topS 23
abbrev N_law : List Str := ["script", "deck", "lap", "folk", "made", "told", "there", "ages", "strange", "turn", "away", "below", "asked", "due", "old", "much", "bears", "one"]
abbrev P_law : List Str := ["script"]
theorem sc_law : FnScope N_law P_law (defScope s_law) := ⟨rfl, rfl, rfl, by decide +kernel, rfl, by decide +kernel, by decide +kernel⟩
def sp_law (K : PySem.W.Frag) : Sp := fun vs H Q _ => ∃ (a : Addr) (ns : List Int), vs = [.ref a] ∧ SqL K H a (ns.map V.int) ∧ ns.length ≤ 63 ∧ ∀ H', Q (.bl true) H'
theorem settle_none : settle ([] : List (Int × Int)) = [] := by
  have e1 : byAge ([] : List (Int × Int)) = [] := List.eq_nil_of_length_eq_zero (byAge_length [])
  show settleL (byAge []) = []
  rw [e1]
  rfl
def asksOf (fk : List (Int × Int)) : List (Str × Int × Int) := fk.map fun g => (("come" : Str), g.1, g.2)
def nones (fk : List (Int × Int)) : List PyData := fk.map fun _ => .list []
theorem Oks.nones (fk : List (Int × Int)) : Oks 2 (.list (nones fk)) := .lst fun x m => by
  obtain ⟨_, _, rfl⟩ := List.mem_map.mp m
  exact .lst fun x m => by cases m
/-- ages that may not be there -/
def oddAges : List Int := [0, 7, -8, 10 ^ 29 + 1, 60, 1 - 10 ^ 30]
def strangeTo (L : List Int) : List Int := oddAges.filter fun z => !decide (z ∈ L)
theorem strange_some {L : List Int} (h : ∀ z ∈ L, z.natAbs < 500000000000000000000000000000) : 0 < (strangeTo L).length ∧ (strangeTo L).length ≤ 6 ∧ ∀ z ∈ strangeTo L, z ∉ L ∧ z.natAbs < 10 ^ 200 := by
  refine ⟨?_, List.length_filter_le _ _, fun z m => ?_⟩
  · have hm : (1 - 10 ^ 30 : Int) ∈ strangeTo L := by
      refine List.mem_filter.mpr ⟨by decide, ?_⟩
      have : (1 - 10 ^ 30 : Int) ∉ L := fun m => absurd (h _ m) (by decide)
      show (!decide ((1 - 10 ^ 30 : Int) ∈ L)) = true
      rw [decide_eq_false this]
      rfl
    exact List.length_pos_of_mem hm
  · obtain ⟨m1, m2⟩ := List.mem_filter.mp m
    refine ⟨by simpa using m2, ?_⟩
    have all : ∀ z ∈ oddAges, z.natAbs < 10 ^ 200 := by decide +kernel
    exact all z m1
def laterA (away below : Int) : List (Str × Int × Int) := [("go", away, 0), ("where", away, 0), ("turn", away, 3), ("turn", away, below)]
def oldA (old much below : Int) : List (Str × Int × Int) := [("come", old, much), ("come", old, below), ("turn", old, below)]
def laterD (away below : Int) : List PyData := [.list [.int away], .list [.int away], .list [.int away], .list [.int away], .list [.tuple [.int away, .int below]]]
def oldD (old much below : Int) : List PyData := [.list [.tuple [.int old, .int much]], .list [.tuple [.int old, .int below]], .list [.tuple [.int old, .int below]], .list []]
theorem asks_later {fk : List (Int × Int)} {away below : Int} (ha : away ∉ fk.map (·.1)) (hb : below < 0) {as : List (Str × Int × Int)} {ds : List PyData} (h : Asks fk as fk ds) : Asks fk (laterA away below ++ [(("come" : Str), away, below)] ++ as) fk (laterD away below ++ ds) :=
  .gone (.inr (.inl rfl)) ha (.gone (.inr (.inr rfl)) ha (.gone (.inl rfl) ha (.gone (.inl rfl) ha (.bad (.inl ⟨rfl, .inl hb⟩) h))))
theorem asks_old {fk : List (Int × Int)} {old much below : Int} (ho : old ∈ fk.map (·.1)) (hb : below < 0) : Asks fk (oldA old much below ++ [(("where" : Str), old, 0)]) fk (oldD old much below) :=
  .bad (.inl ⟨rfl, .inr ho⟩) (.bad (.inl ⟨rfl, .inl hb⟩) (.bad (.inr ⟨rfl, ho, hb⟩) (.there ho .nil)))
theorem Oks.two' (a b : Int) : Oks 2 (.list [.tuple [.int a, .int b]]) := .lst fun x m => by
  rw [List.mem_singleton.mp m]
  exact .tup fun x m => by
    rcases List.mem_cons.mp m with rfl | m
    · exact .int a
    · rw [List.mem_singleton.mp m]
      exact .int b
theorem oks_later {away below : Int} : ∀ x ∈ laterD away below, Oks 2 x := fun x m => by
  have h1 : Oks 2 (.list [.int away]) := (Oks.lst (n := 0) fun x m => by rw [List.mem_singleton.mp m]; exact .int away).mono (by decide)
  simp only [laterD, List.mem_cons, List.not_mem_nil, or_false] at m
  rcases m with rfl | rfl | rfl | rfl | rfl
  · exact h1
  · exact h1
  · exact h1
  · exact h1
  · exact .two' _ _
theorem oks_old {old much below : Int} : ∀ x ∈ oldD old much below, Oks 2 x := fun x m => by
  simp only [oldD, List.mem_cons, List.not_mem_nil, or_false] at m
  rcases m with rfl | rfl | rfl | rfl
  · exact .two' _ _
  · exact .two' _ _
  · exact .two' _ _
  · exact .lst fun x m => by cases m
theorem eqv_noInts (L : List Int) : PyData.eqv (dInts L) (dInts []) = L.isEmpty := by
  cases L <;> rfl
theorem ok_law {C fI : Addr} {fdI : FuncData} (A : At K mg "law" P_law s_law) (B : Bi mg) (T : InnT K mg C) (MK_Inn : Mk K C fI) (FI_Inn : FnOk P w K mg base CX0 1 fI fdI P_Inn___init__ (sp_Inn___init__ C)) (bI_Inn : Binds K fdI P_Inn___init__ [])
    (M_rooms : Mf P w K mg base 1 C "rooms" "Inn.rooms" P_Inn_rooms s_Inn_rooms (sp_Inn_rooms C)) (M_guests : Mf P w K mg base 1 C "guests" "Inn.guests" P_Inn_guests s_Inn_guests (sp_Inn_guests C)) (M___len__ : Mf P w K mg base 1 C "__len__" "Inn.__len__" P_Inn___len__ s_Inn___len__ (sp_Inn___len__ C))
    (D__law_deck : Df P w K mg base 1 "_law_deck" P__law_deck s__law_deck (sp__law_deck K)) (D__law_take : Df P w K mg base 1 "_law_take" P__law_take s__law_take sp__law_take) (D__law_folk : Df P w K mg base 3 "_law_folk" P__law_folk s__law_folk sp__law_folk)
    (D__law_errors_right : Df P w K mg base 3 "_law_errors_right" P__law_errors_right s__law_errors_right sp__law_errors_right) (D__law_asked : Df P w K mg base 7 "_law_asked" P__law_asked s__law_asked (sp__law_asked K C)) (D__law_behind_right : Df P w K mg base 5 "_law_behind_right" P__law_behind_right s__law_behind_right (sp__law_behind_right C)) :
    Df P w K mg base 8 "law" P_law s_law (sp_law K) := by
  refine A.df fun f fd F => F.ok sc_law (fun vs H Q E h => ?_) (fun cdv AA outer s H vs Q E hr h => ?_)
  · obtain ⟨_, _, rfl, _⟩ := h
    rfl
  · obtain ⟨a, ns, rfl, hS, hl, q⟩ := h
    have nd := sc_law.nd
    refine ⟨_, (pss_cons (ps_set (i := 1) nd rfl (.inl rfl) (pe_df D__law_deck (hr.mono (by decide)) (by rfl) (pa_cons (pv 0) pa_nil)))
    (pss_cons (ps_for PassesOwn.never rfl (pi_range1 (by rfl) B.range (pa_cons (pe_op op_add pe_int (pe_callB (call_min2 rfl) (by rfl) B.min (by decide +kernel) (pa_cons pe_int (pa_cons (pe_callB call_len_seq (by rfl) B.len PySem.boot_len (pa_cons (pv 0) pa_nil)) pa_nil)))) pa_nil)) (pg_name (i := 2) nd rfl (.inl rfl)) (pss_cons (ps_set (i := 3) nd rfl (.inl rfl) (pe_df D__law_folk (hr.mono (by decide)) (by rfl) (pa_cons (pv 1) (pa_cons pe_int pa_nil)))) (pss_cons (ps_set (i := 4) nd rfl (.inl rfl) (pe_make0 MK_Inn FI_Inn (hr.mono (by decide)) rfl T.mgC bI_Inn .nil pass0)) (pss_cons (ps_set (i := 5) nd rfl (.inl rfl) (pe_df D__law_asked (hr.mono (by decide)) (by rfl) (pa_cons (pv 4) (pa_cons (pe_lc (own := [("old", 14), ("bears", 16)]) (tt := tYes) rfl nd (pi_list (pv 3)) (blkOk_by (N := N_law) (sc := defScope s_law) (by decide +kernel)) (fun _ _ _ _ _ => (pgTupK K 2 (by rfl) (pgs_cons (pg_name (i := 14) nd rfl (.inl rfl)) (pgs_cons (pg_name (i := 16) nd rfl (.inl rfl)) pgs_nil)))) (fun _ _ _ _ _ => pts_nil) (fun _ _ _ _ _ => (pe_tup (pa_cons pe_str (pa_cons (pv 14) (pa_cons (pv 16) pa_nil)))))) pa_nil)))) (pss_cons (ps_if (PW.pt (pw_or (pt_not (pt_val (pe_df0 D__law_errors_right (hr.mono (by decide)) (by rfl)))) (pw_or1 (pt_cmpR (op_neD hr.units) (pv 5) (pe_lc (own := [("one", 17)]) (tt := tYes) rfl nd (pi_list (pv 3)) (blkOk_by (N := N_law) (sc := defScope s_law) (by decide +kernel)) (fun _ _ _ _ _ => (pg_name (i := 17) nd rfl (.inl rfl))) (fun _ _ _ _ _ => pts_nil) (fun _ _ _ _ _ => (pe_lst pa_nil))) (nomark _))))) (pss_one (ps_ret pe_bl)) pss_nil) (pss_cons (ps_set (i := 6) nd rfl (.inl rfl) (pe_tup (pa_cons (pe_mf0 M_guests T.cl (hr.mono (by decide)) (pv 4)) (pa_cons (pe_mf0 M_rooms T.cl (hr.mono (by decide)) (pv 4)) (pa_cons (pe_callB (call_lenO M___len__ (hr.mono (by decide))) (by rfl) B.len PySem.boot_len (pa_cons (pv 4) pa_nil)) pa_nil))))) (pss_cons (ps_set (i := 7) nd rfl (.inr rfl) (pe_lc (own := [("old", 14), ("bears", 16)]) (tt := tYes) rfl nd (pi_list (pv 3)) (blkOk_by (N := N_law) (sc := defScope s_law) (by decide +kernel)) (fun _ _ _ _ _ => (pgTupK K 2 (by rfl) (pgs_cons (pg_name (i := 14) nd rfl (.inl rfl)) (pgs_cons (pg_name (i := 16) nd rfl (.inl rfl)) pgs_nil)))) (fun _ _ _ _ _ => pts_nil) (fun _ _ _ _ _ => (pv 14)))) (pss_cons (ps_setLc (i := 8) (own := [("one", 17)]) rfl nd rfl rfl (sw_true rfl rfl rfl (by decide +kernel)) (pi_list (pe_lst (pa_cons pe_int (pa_cons pe_int (pa_cons (pe_un un_neg pe_int) (pa_cons (pe_op op_add (pe_op op_pow pe_int pe_int) pe_int) (pa_cons pe_int (pa_cons (pe_op op_sub pe_int (pe_op op_pow pe_int pe_int)) pa_nil)))))))) (blkOk_by (N := N_law) (sc := defScope s_law) (by decide +kernel)) (fun _ _ _ _ _ => (pg_name (i := 17) nd rfl (.inl rfl))) (fun _ _ _ _ _ => (pts_one (pt_cmpR (notInK K) (pv 17) (pv 7) (by rfl)))) (fun _ _ _ _ _ => (pv 17))) (pss_cons (ps_for PassesOwn.never rfl (pi_range1 (by rfl) B.range (pa_cons pe_int pa_nil)) (pg_name (i := 9) nd rfl (.inl rfl)) (pss_cons (ps_set (i := 10) nd rfl (.inl rfl) (pe_ix ix_list (pv 8) (pe_df D__law_take (hr.mono (by decide)) (by rfl) (pa_cons (pv 1) (pa_cons (pe_callB call_len_seq (by rfl) B.len PySem.boot_len (pa_cons (pv 8) pa_nil)) pa_nil))) (fun _ _ => rfl))) (pss_cons (ps_set (i := 11) nd rfl (.inl rfl) (pe_op op_sub (pe_un un_neg pe_int) (pe_df D__law_take (hr.mono (by decide)) (by rfl) (pa_cons (pv 1) (pa_cons (pe_ix ix_list (pe_lst (pa_cons pe_int (pa_cons (pe_op op_pow pe_int pe_int) pa_nil))) (pe_df D__law_take (hr.mono (by decide)) (by rfl) (pa_cons (pv 1) (pa_cons pe_int pa_nil))) (fun _ _ => rfl)) pa_nil))))) (pss_cons (ps_set (i := 12) nd rfl (.inl rfl) (pe_lst (pa_cons (pe_tup (pa_cons pe_str (pa_cons (pv 10) (pa_cons pe_int pa_nil)))) (pa_cons (pe_tup (pa_cons pe_str (pa_cons (pv 10) (pa_cons pe_int pa_nil)))) (pa_cons (pe_tup (pa_cons pe_str (pa_cons (pv 10) (pa_cons pe_int pa_nil)))) (pa_cons (pe_tup (pa_cons pe_str (pa_cons (pv 10) (pa_cons (pv 11) pa_nil)))) pa_nil)))))) (pss_cons (ps_expr (pe_bm PySem.F.plainAttrs_list PySem.F.slot_list_append PySem.F.type_list_append mt_append (pv 12) (pa_cons (pe_tup (pa_cons pe_str (pa_cons (pv 10) (pa_cons (pv 11) pa_nil)))) pa_nil))) (pss_cons (ps_set (i := 13) nd rfl (.inl rfl) (pe_lst (pa_cons (pe_lst (pa_cons (pv 10) pa_nil)) (pa_cons (pe_lst (pa_cons (pv 10) pa_nil)) (pa_cons (pe_lst (pa_cons (pv 10) pa_nil)) (pa_cons (pe_lst (pa_cons (pv 10) pa_nil)) (pa_cons (pe_lst (pa_cons (pe_tup (pa_cons (pv 10) (pa_cons (pv 11) pa_nil))) pa_nil)) pa_nil))))))) (pss_cons (ps_if (pt_cmpR (op_neD hr.units) (pv 7) (pe_lst pa_nil) (nomark _)) (pss_cons (ps_set (i := 14) nd rfl (.inl rfl) (pe_ix ix_list (pv 7) (pe_df D__law_take (hr.mono (by decide)) (by rfl) (pa_cons (pv 1) (pa_cons (pe_callB call_len_seq (by rfl) B.len PySem.boot_len (pa_cons (pv 7) pa_nil)) pa_nil))) (fun _ _ => rfl))) (pss_cons (ps_set (i := 15) nd rfl (.inl rfl) (pe_df D__law_take (hr.mono (by decide)) (by rfl) (pa_cons (pv 1) (pa_cons pe_int pa_nil)))) (pss_cons (ps_set (i := 12) nd rfl (.inl rfl) (pe_op op_cat (pv 12) (pe_lst (pa_cons (pe_tup (pa_cons pe_str (pa_cons (pv 14) (pa_cons (pv 15) pa_nil)))) (pa_cons (pe_tup (pa_cons pe_str (pa_cons (pv 14) (pa_cons (pv 11) pa_nil)))) (pa_cons (pe_tup (pa_cons pe_str (pa_cons (pv 14) (pa_cons (pv 11) pa_nil)))) pa_nil)))))) (pss_cons (ps_expr (pe_bm PySem.F.plainAttrs_list PySem.F.slot_list_append PySem.F.type_list_append mt_append (pv 12) (pa_cons (pe_tup (pa_cons pe_str (pa_cons (pv 14) (pa_cons pe_int pa_nil)))) pa_nil))) (pss_one (ps_set (i := 13) nd rfl (.inl rfl) (pe_op op_cat (pv 13) (pe_lst (pa_cons (pe_lst (pa_cons (pe_tup (pa_cons (pv 14) (pa_cons (pv 15) pa_nil))) pa_nil)) (pa_cons (pe_lst (pa_cons (pe_tup (pa_cons (pv 14) (pa_cons (pv 11) pa_nil))) pa_nil)) (pa_cons (pe_lst (pa_cons (pe_tup (pa_cons (pv 14) (pa_cons (pv 11) pa_nil))) pa_nil)) (pa_cons (pe_lst pa_nil) pa_nil)))))))))))) pss_nil) (pss_one (ps_if (PW.pt (pw_or (pt_cmpR (op_neD hr.units) (pe_df D__law_asked (hr.mono (by decide)) (by rfl) (pa_cons (pv 4) (pa_cons (pv 12) pa_nil))) (pv 13) (nomark _)) (pw_or1 (pt_cmpR (op_neD hr.units) (pe_tup (pa_cons (pe_mf0 M_guests T.cl (hr.mono (by decide)) (pv 4)) (pa_cons (pe_mf0 M_rooms T.cl (hr.mono (by decide)) (pv 4)) (pa_cons (pe_callB (call_lenO M___len__ (hr.mono (by decide))) (by rfl) B.len PySem.boot_len (pa_cons (pv 4) pa_nil)) pa_nil)))) (pv 6) (nomark _))))) (pss_one (ps_ret pe_bl)) pss_nil))))))))) (pss_one (ps_if (pt_not (pt_val (pe_df D__law_behind_right (hr.mono (by decide)) (by rfl) (pa_cons (pv 1) (pa_cons (pv 4) (pa_cons (pv 3) (pa_cons (pv 10) pa_nil))))))) (pss_one (ps_ret pe_bl)) pss_nil)))))))))))
    (pss_one (ps_ret pe_bl)))), ?_⟩
    refine ⟨.ref a, rfl, a, ns, rfl, hS, hl, fun H1 t g s1 nt ng T1 => ?_⟩
    refine ⟨.ref a, rfl, a, _, rfl, .inl (s1.seq hS), _, _, rfl, _, _, rfl, rfl, _, rfl, ?_, ?_, ?_⟩
    · split <;> omega
    · split <;> omega
    have hlaps : ((3 : Int) + (if ((ns.map V.int).length : Int) < 5 then ((ns.map V.int).length : Int) else 5)).toNat ≤ 8 := by
      split <;> omega
    refine for_it walk_range (fun i σ H2 => ∃ y2 y3 y4 y5 y6 y7 y8 y9 y10 y11 y12 y13 y14 y15 y16 y17, σ = [some (.ref a), some (.ref t), y2, y3, y4, y5, y6, y7, y8, y9, y10, y11, y12, y13, y14, y15, y16, y17] ∧ Deck H2 t g (10000 * i)) ⟨_, _, _, _, _, _, _, _, _, _, _, _, _, _, _, _, rfl, T1⟩ (fun _ _ _ _ _ => trivial) (fun i x σ H2 H3 hi hW hY => ?_) (fun σ H2 hW => ?_)
    · obtain ⟨y2, y3, y4, y5, y6, y7, y8, y9, y10, y11, y12, y13, y14, y15, y16, y17, rfl, T2⟩ := hW
      obtain ⟨rfl, rfl⟩ := hY
      have hi11 : i ≤ 7 := by omega
      -- folk
      refine ⟨.ref t, rfl, t, g, _, 20, rfl, T2, by omega, by omega, fun H5 fo fts fk k5 T5 G5 hF hgl hb => ?_⟩
      dsimp only [gName]
      -- made = Inn()
      refine fun x dx nx ndx ne => ⟨x, dx, rfl, upd_same, fun d o Hg nd0 no0 Ig kg => ⟨rfl, ?_⟩⟩
      have s0 : Same H5 (upd (upd H5 dx (.own x)) x (.ins C dx [])) := fun b u e => by
        rw [upd_ne (ne_of_none e nx), upd_ne (ne_of_none e ndx)]
        exact e
      have sg : Same H5 Hg := fun b u e => kg b u (ne_of_none e nx) (s0 b u e)
      have Jg : InnAt C Hg (fun b => H5 b = none) x d o [] [] [] := Ig.reB fun b _ hb => hb.elim (fun y => y ▸ nx) fun e => s0.free e
      dsimp only [gName]
      have n5 : ∀ b, H5 b = none → H3 b = none := fun b e => k5.none (T5.off e) e
      have zf : ∀ b, (b = fo ∨ b ∈ fts) → H3 b = none ∧ ∃ v, H5 b = some v := fun b z => z.elim (fun z => z ▸ ⟨G5.ba, _, G5.top⟩) fun z => ⟨G5.b b z, G5.there b (.inr z)⟩
      have W0 : One C H3 t g x d o (10000 * i + 600) (fun b => b = fo ∨ b ∈ fts) (fun b => H5 b = none) [] [] Hg := ⟨by rw [settle_none]; exact Jg, fun b e z => dead_live e (zf b z).2, n5, fun b z => let ⟨v, e⟩ := (zf b z).2; ⟨v, sg _ _ e⟩, fun b z => (zf b z).1, k5.trans (.of sg), fun b e => n5 b (sg.free e), T5.same sg, fun b e => T2.off e⟩
      have GF0 : GsAt Hg (fun b => b = fo ∨ b ∈ fts) fo fts fk := (G5.same sg).reB fun b m _ => m
      clear Jg Ig s0
      have Wg := W0.live
      clear W0
      revert Wg GF0
      generalize (fun b => b = fo ∨ b ∈ fts) = Z0
      intro GF0 Wg
      -- told
      refine ⟨.ref x, rfl, .ref fo, rfl, fo, rfl, ⟨_, GF0.seq⟩, fun D nD => ?_⟩
      refine lc_it (walk_list (xs := fts.map V.ref)) (fun j H6 => Same Hg H6 ∧ ∃ us, AskAt H6 (fun b => Hg b = none) D us (asksOf (fk.take j))) ⟨same_new nD, [], upd_same, rfl, fun i t x e _ => by simp at e, nD, fun t m => by simp at m⟩ (fun j H6 _ hW => (GF0.same hW.1).seq) (fun j v H6 H7 hj hW hY => ?_) (fun H6 hW => ?_)
      · obtain ⟨s6, us, A6⟩ := hW
        obtain ⟨rfl, hv6⟩ := hY
        obtain ⟨t6, g6, rfl, eg6, et6⟩ := (GF0.same s6).get hv6
        refine ⟨t6, _, rfl, SqT.of et6, rfl, .int g6.1, _, rfl, .int g6.2, _, rfl, rfl, rfl, .int g6.1, rfl, .int g6.2, rfl, (by show 3 ≤ sizeLine; decide), fun tt nt => ?_⟩
        have st := same_new (o := .tup [.str "come", .int g6.1, .int g6.2]) nt
        have A7 := (A6.keep (Kp.of st)).push (tt := tt) (x := (("come" : Str), g6.1, g6.2)) upd_same (s6.free nt)
        refine ⟨_, (A6.keep (Kp.of st)).top, ils ?_, Same.mut (s6.trans st) nD, us ++ [tt], ?_⟩
        · rw [List.length_map, A6.len]
          unfold asksOf
          rw [List.length_map, List.length_take]
          omega
        · rw [take_snoc eg6]
          unfold asksOf
          rw [List.map_append]
          exact A7
      · obtain ⟨s6, us, A6⟩ := hW
        rw [List.length_map, GF0.len, List.take_length] at A6
        have W6 := Wg.same s6
        have lA : (asksOf fk).length = fk.length := List.length_map _
        refine ⟨_, _, x, d, o, D, _, us, [], fk, asksOf fk, nones fk, rfl, W6.i, ⟨List.nodup_nil, fun g m => by cases m⟩, A6, fun b e z => dead_live e z.2, by rw [lA]; show 0 + fk.length ≤ 400; omega, fun z m => ?_, Asks.comes (gs := []) hF, fun H7 r A7 nr => ?_⟩
        · obtain ⟨y, my, rfl⟩ := List.mem_map.mp m
          have h1 := hb y my
          have h2 := hF.pos y my
          have e1 : (500000000000000000000000000000 : Nat) < 10 ^ 200 := by decide
          have e2 : (2000000000000000000000000000000 : Nat) < 10 ^ 200 := by decide
          exact ⟨Nat.lt_trans h1.1 e1, Nat.lt_trans (show y.2.natAbs < 2000000000000000000000000000000 by omega) e2⟩
        obtain ⟨B7, ts7, W7, kz7, F7, dp7⟩ := W6.asked A7
        have GF7 := (GF0.same s6).keep kz7
        clear W6 A7 A6
        dsimp only [gName]
        -- if not _law_errors_right() or told != [[] for one in folk]
        refine ⟨rfl, fun H8 s8 => ⟨_, rfl, iteF ?_⟩⟩
        refine ⟨.ref r, rfl, .ref fo, rfl, fo, rfl, ⟨_, (GF7.same s8).seq⟩, fun D2 nD2 => ?_⟩
        refine lc_it (walk_list (xs := fts.map V.ref)) (fun j H9 => Same H8 H9 ∧ ∃ vs, H9 D2 = some (.lst vs) ∧ Told K (fun b => H8 b = none ∧ b ≠ D2) H9 vs (nones (fk.take j))) ⟨same_new nD2, [], upd_same, rfl, fun i v d e _ => by simp at e⟩ (fun j H9 _ hW => ((GF7.same s8).same hW.1).seq) (fun j v H9 Ha hj hW hY => ?_) (fun H9 hW => ?_)
        · obtain ⟨s9, vs, e9, N9⟩ := hW
          obtain ⟨rfl, hv9⟩ := hY
          obtain ⟨t9, g9, rfl, eg9, et9⟩ := ((GF7.same s8).same s9).get hv9
          refine ⟨rfl, (by show 0 ≤ sizeLine; decide), fun p np => ?_⟩
          have st := same_new (o := .lst []) np
          have nD2p : p ≠ D2 := fun z => by
            rw [z, e9] at np
            cases np
          refine ⟨vs, st _ _ e9, ils ?_, Same.mut (s9.trans st) nD2, vs ++ [.ref p], upd_same, ?_⟩
          · rw [N9.1]
            unfold nones
            rw [List.length_map, List.length_take]
            omega
          · have kD : Kp (fun b => H8 b = none ∧ b ≠ D2) (upd Ha p (.lst [])) (upd (upd Ha p (.lst [])) D2 (.lst (vs ++ [.ref p]))) := fun b u hb e => by
              rw [upd_ne hb.2]
              exact e
            have N10 := ((N9.keep (Kp.of st)).keep kD).more (v := .ref p) (d := .list []) (fun b z => z) fun H' k => .lst (SqL.of (k _ _ ⟨s9.free np, nD2p⟩ (kD _ _ ⟨s9.free np, nD2p⟩ upd_same))) .nil
            rw [take_snoc eg9]
            unfold nones
            rw [List.map_append]
            exact N10
        · obtain ⟨s9, vs, e9, N9⟩ := hW
          rw [List.length_map, GF0.len, List.take_length] at N9
          refine ⟨_, _, dp7 _ (s8.trans s9), .lst (SqL.of e9) (dpAll_of N9.1 fun i w e ev ee => N9.2 i w e ev ee _ Kp.refl), (Oks.nones fk).shaped, (Oks.nones fk).shaped, _, rfl, ?_⟩
          rw [(Oks.nones fk).eqv]
          refine ifNo rfl ?_
          dsimp only [tNext]
          have W9 := (W7.same s8).same s9
          have GF9 := (GF7.same s8).same s9
          clear W7 GF7 dp7 N9 e9 nD2 kz7 nr Wg GF0
          -- there
          refine show tTup _ _ _ (fun y H' => gName 6 y _ H' _) from ask_tri (j := 4) W9 rfl hF (by omega) fun Hb th sb TH => ?_
          -- ages
          have GFb := GF9.same sb
          refine ⟨.ref fo, rfl, fo, rfl, ⟨_, GFb.seq⟩, fun ag nag => ?_⟩
          refine lc_it (walk_list (xs := fts.map V.ref)) (fun j Hn => Same Hb Hn ∧ Hn ag = some (.lst (((fk.take j).map (·.1)).map V.int))) ⟨same_new nag, upd_same⟩ (fun j Hn _ hW => (GFb.same hW.1).seq) (fun j v Hn Ho hj hW hY => ?_) (fun Hc hW => ?_)
          · obtain ⟨sn, en⟩ := hW
            obtain ⟨rfl, hv2⟩ := hY
            obtain ⟨tt, g2, rfl, eg, et⟩ := (GFb.same sn).get hv2
            refine ⟨tt, _, rfl, SqT.of et, rfl, .int g2.1, _, rfl, .int g2.2, _, rfl, rfl, rfl, .int g2.1, rfl, _, en, ils ?_, Same.mut sn nag, ?_⟩
            · rw [List.length_map, List.length_map, List.length_take]
              omega
            · rw [upd_same, take_snoc eg, List.map_append, List.map_append]
              rfl
          · obtain ⟨sc, eag⟩ := hW
            rw [List.length_map, GF9.len, List.take_length] at eag
            -- strange
            refine ⟨_, rfl, _, _, rfl, rfl, ⟨by decide, by decide, by decide⟩, _, _, rfl, rfl, _, _, rfl, rfl, ⟨by decide, by decide, by decide⟩, _, _, rfl, rfl, (by show 6 ≤ sizeLine; decide), fun l nl => ?_⟩
            have sl := same_new (o := .lst (oddAges.map V.int)) nl
            refine ⟨l, rfl, ⟨_, SqL.of upd_same⟩, fun D3 nD3 => ?_⟩
            refine lc_selG (A := oddAges) (fun z => !decide (z ∈ fk.map (·.1))) upd_same nD3 (by decide) (fun z H' Q s' qq => ⟨.int z, rfl, .ref ag, rfl, ag, _, rfl, .inl (SqL.of (s' _ _ (sl _ _ eag))), rfl, ?_, _, rfl, ?_⟩) (fun z H' Q h => ⟨.int z, rfl, h⟩) (fun _ => rfl) (fun Hd sd est => ?_)
            · rw [List.all_eq_true]
              intro x m
              obtain ⟨i, _, rfl⟩ := List.mem_map.mp m
              rfl
            · show Q (!inV (.int z) ((fk.map (·.1)).map V.int)) H'
              rw [inV_ints]
              exact qq H' (Same.refl _)
            -- what stands from here on
            have sAll := sb.trans (sc.trans (sl.trans sd))
            obtain ⟨Z, hZ⟩ : ∃ Z : Addr → Prop, Z = fun b => Z0 b ∨ H9 b = none ∧ ∃ v, Hd b = some v := ⟨_, rfl⟩
            have Wd := W9.also (Z' := fun b => H9 b = none ∧ ∃ v, Hd b = some v) sAll (fun b z => z.1) fun b z => z.2
            rw [← hZ] at Wd
            have eagD := sd _ _ (sl _ _ eag)
            have zag : Z ag := by
              rw [hZ]
              exact .inr ⟨sb.free nag, _, eagD⟩
            have zst : Z D3 := by
              rw [hZ]
              exact .inr ⟨sb.free (sc.free (sl.free nD3)), _, est⟩
            have THd := (TH.keep (Kp.of (sc.trans (sl.trans sd)))).reB (Z' := Z) fun b n l => by
              rw [hZ]
              exact .inr ⟨n, l⟩
            have GFd := (GF9.same sAll).reB (B' := Z) fun b _ z => by
              rw [hZ]
              exact .inl z
            clear TH W9 GF9 GFb hZ
            obtain ⟨sp0, sp6, spz⟩ := strange_some (L := fk.map (·.1)) fun z m => by
              obtain ⟨y, my, rfl⟩ := List.mem_map.mp m
              exact (hb y my).1
            have est2 : Hd D3 = some (.lst ((strangeTo (fk.map (·.1))).map V.int)) := est
            have lage : (fk.map (·.1)).length ≤ 20 := by
              rw [List.length_map]
              exact hgl
            have bage : ∀ z ∈ fk.map (·.1), z.natAbs < 10 ^ 200 := fun z m => by
              obtain ⟨y, my, rfl⟩ := List.mem_map.mp m
              exact Nat.lt_trans (hb y my).1 (by decide)
            clear est sAll
            dsimp only [gName]
            -- the turns
            refine ⟨_, rfl, by decide, by decide, ?_⟩
            refine for_it walk_range (fun k σ Hi => ∃ y9 y10 y11 y12 y13 y14 y15 y16 y17 BB ts, σ = [some (.ref a), some (.ref t), some (.int (0 + (i : Int))), some (.ref fo), some (.ref x), some (.ref r), some (.ref th), some (.ref ag), some (.ref D3), y9, y10, y11, y12, y13, y14, y15, y16, y17] ∧ One C H3 t g x d o (10000 * i + 600 + 20 * k) Z BB ts fk Hi ∧ Kp Z Hd Hi ∧ (k = 0 ∨ ∃ z : Int, y10 = some (.int z) ∧ z ∉ fk.map (·.1)))
              ⟨_, _, _, _, _, _, _, _, _, _, _, rfl, Wd, Kp.refl, .inl rfl⟩ (fun _ _ _ _ _ => trivial) (fun k v σ Hi Hj hk hW hY => ?_) (fun σ Hi hW => ?_)
            · obtain ⟨y9, y10, y11, y12, y13, y14, y15, y16, y17, BB0, ts, rfl, W0, kz, _⟩ := hW
              obtain ⟨rfl, rfl⟩ := hY
              have hk4 : k < 4 := hk
              obtain ⟨BB, hBB⟩ : ∃ BB : Addr → Prop, BB = fun b => BB0 b ∧ ∃ v, Hj b = some v := ⟨_, rfl⟩
              have W := W0.live
              rw [← hBB] at W
              have hN : ∀ b, Hj b = none → ¬ BB b := fun b e z => by
                rw [hBB] at z
                exact dead_live e z.2
              have hO : ∀ b, Hj b = none → Off t g b := fun b e => W0.off b (W0.v b e)
              have h3 : ∀ b, Hj b = none → H3 b = none := fun b e => W0.v b e
              have hNZ : ∀ b, Hj b = none → ¬ Z b := fun b e z => dead_live e (W.zl b z)
              clear W0 Wd hBB
              dsimp only [gName]
              -- away
              refine ⟨.ref D3, rfl, .ref t, rfl, .ref D3, rfl, D3, _, rfl, .inl (SqL.of (kz _ _ zst est2)), t, g, _, _, rfl, W.deck, by omega, ?_, ?_, fun Ha ra ka Ta a1 b1 => ?_⟩
              · rw [List.length_map]
                omega
              · rw [List.length_map]
                exact Int.lt_of_lt_of_le (show ((strangeTo (fk.map (·.1))).length : Int) < 7 by omega) (by decide)
              rw [List.length_map] at b1
              obtain ⟨Wa, ka2⟩ := W.draw ka Ta
              obtain ⟨j1, rfl⟩ : ∃ j1 : Nat, ra = j1 := ⟨ra.toNat, by omega⟩
              obtain ⟨z, ez⟩ := at_some (l := strangeTo (fk.map (·.1))) (i := j1) (by omega)
              obtain ⟨hz, bz⟩ := spz z (List.mem_of_getElem? ez)
              refine ⟨D3, _, _, .int z, rfl, rfl, SqL.of (ka2 _ _ zst (kz _ _ zst est2)), atI_nat (j := j1) (by rw [List.getElem?_map, ez]; rfl), ?_⟩
              dsimp only [gName]
              -- below
              refine ⟨_, rfl, .ref t, rfl, _, _, rfl, rfl, ⟨by decide, by decide, by decide⟩, (by show 2 ≤ sizeLine; decide), fun p np => ⟨.ref t, rfl, t, g, _, 2, rfl, (Wa.same (same_new np)).deck, by omega, by decide, by decide, fun Hb1 rb kb Tb a2 b2 => ?_⟩⟩
              have sp := same_new (o := .lst [.int 1, .int (10 ^ Int.toNat 6)]) np
              obtain ⟨Wb, kb2⟩ := (Wa.same sp).draw kb Tb
              obtain ⟨v2, hv2, mv2⟩ := at_pick (xs := [V.int 1, .int (10 ^ Int.toNat 6)]) a2 b2
              have op : Off t g p := Ta.off np
              have mm : ∃ m : Int, v2 = .int m ∧ 0 < m ∧ m ≤ 1000000 := by
                rcases List.mem_cons.mp mv2 with rfl | mv2
                · exact ⟨1, rfl, by decide, by decide⟩
                · rw [List.mem_singleton.mp mv2]
                  exact ⟨_, rfl, by decide, by decide⟩
              obtain ⟨m, rfl, hm0, hm1⟩ := mm
              refine ⟨p, _, _, .int m, rfl, rfl, SqL.of (kb _ _ op upd_same), hv2, t, g, _, m, rfl, Wb.deck, by omega, hm0, Int.lt_of_le_of_lt hm1 (by decide), fun Hc1 rc kc Tc a3 b3 => ⟨_, _, rfl, rfl, ?_⟩⟩
              obtain ⟨Wc, kc2⟩ := Wb.draw kc Tc
              obtain ⟨bl, ebl⟩ : ∃ bl : Int, bl = -1 - rc := ⟨_, rfl⟩
              have hbl : bl < 0 := by omega
              have bbl : bl.natAbs < 10 ^ 200 := Nat.lt_trans (show bl.natAbs < 2000000 by omega) (by decide)
              dsimp only
              rw [← ebl]
              have kzc : Kp Z Hd Hc1 := ((kz.trans ka2).trans (Kp.of sp)).trans (kb2.trans kc2)
              have kNc : Kp (fun b => Hj b = none) Hj Hc1 := (((ka.trans (Kp.of sp)).trans kb).trans kc).weak hO
              have freeC : ∀ b, Hc1 b = none → Hj b = none := fun b e => by
                have e1 := kc.none (Tc.off e) e
                have e2 := sp.free (kb.none (Tb.off e1) e1)
                exact ka.none (Ta.off e2) e2
              clear Wa Wb
              dsimp only [gName]
              -- asked
              refine show tLst (tAsks [("go", tVar 10, tC (.int 0)), ("where", tVar 10, tC (.int 0)), ("turn", tVar 10, tC (.int 3)), ("turn", tVar 10, tVar 11)]) _ _ (fun y H' => gName 12 y _ H' _) from ?_
              refine Lit.lst (as := laterA z bl) (.cons (by exact says_var rfl) (says_int 0) (.cons (by exact says_var rfl) (says_int 0) (.cons (by exact says_var rfl) (says_int 3) (.cons (by exact says_var rfl) (by exact says_var rfl) .nil)))) (by show 4 ≤ 1000; decide) fun He ask sts se Ae => ?_
              dsimp only [gName]
              have We := Wc.same se
              have Ae2 := Ae.reB (B' := fun b => Hj b = none) freeC
              -- asked.append(('come', away, below))
              refine ⟨.ref ask, rfl, .inl ⟨rfl, _, SqL.of Ae.top⟩, .int z, rfl, .int bl, rfl, (by show 3 ≤ sizeLine; decide), fun tt nt => ?_⟩
              have st := same_new (o := .tup [.str "come", .int z, .int bl]) nt
              have At := Ae2.keep (Kp.of st)
              refine ⟨ask, _, _, rfl, rfl, At.top, ils (by rw [List.length_map, At.len]; show 4 ≤ 100000; decide), ?_⟩
              have Af := At.push (tt := tt) (x := (("come" : Str), z, bl)) upd_same (freeC _ (se.free nt))
              have Wf := (We.same st).mut (v := .lst (sts.map V.ref ++ [.ref tt])) (hN _ Ae2.ba) (h3 _ Ae2.ba)
              have kzf : Kp Z Hd (upd (upd He tt (.tup [.str "come", .int z, .int bl])) ask (.lst (sts.map V.ref ++ [.ref tt]))) := ((kzc.trans (Kp.of se)).trans (Kp.of st)).mut (hNZ _ Ae2.ba)
              have freeF : ∀ b, upd (upd He tt (.tup [.str "come", .int z, .int bl])) ask (.lst (sts.map V.ref ++ [.ref tt])) b = none → Hj b = none := fun b e => by
                have n : b ≠ ask := fun z => by
                  rw [z, upd_same] at e
                  cases e
                rw [upd_ne n] at e
                exact freeC b (se.free (st.free e))
              clear Wc We Ae Ae2 At
              revert Af Wf kzf freeF
              generalize upd (upd He tt (.tup [.str "come", .int z, .int bl])) ask (.lst (sts.map V.ref ++ [.ref tt])) = Hf
              generalize sts ++ [tt] = us1
              intro Af Wf kzf freeF
              dsimp only
              -- due
              refine show tLst (tDues [.one (tVar 10), .one (tVar 10), .one (tVar 10), .one (tVar 10), .two (tVar 10) (tVar 11)]) _ _ (fun y H' => gName 13 y _ H' _) from ?_
              refine DLit.lst (K := K) (ds := laterD z bl) (.one (by exact says_var rfl) (.one (by exact says_var rfl) (.one (by exact says_var rfl) (.one (by exact says_var rfl) (.two (by exact says_var rfl) (by exact says_var rfl) .nil))))) (by show 5 ≤ 1000; decide) fun Hg1 du vsd sg1 Dg => ?_
              have Wg1 := Wf.same sg1
              have Ag := Af.keep (Kp.of sg1)
              have Dg2 := (Dg.reB (Z' := fun b => Hj b = none) freeF).live
              have kzg := kzf.trans (Kp.of sg1)
              have freeG : ∀ b, Hg1 b = none → Hj b = none := fun b e => freeF b (sg1.free e)
              clear Wf Af Dg
              dsimp only [gName]
              -- if ages != []
              refine seq_to (fun σ Hx => ∃ y14 y15 ask2 du2 sts2 as vs2 ds, σ = [some (.ref a), some (.ref t), some (.int (0 + (i : Int))), some (.ref fo), some (.ref x), some (.ref r), some (.ref th), some (.ref ag), some (.ref D3), some (.int (0 + (k : Int))), some (.int z), some (.int bl), some (.ref ask2), some (.ref du2), y14, y15, y16, y17] ∧
                One C H3 t g x d o (10000 * i + 600 + 20 * k + 5) Z BB ts fk Hx ∧ Kp Z Hd Hx ∧ AskAt Hx (fun b => Hj b = none) ask2 sts2 as ∧ DueAt K Hx (fun b => Hj b = none) du2 vs2 ds ∧ Asks fk as fk ds ∧ (∀ x ∈ as, x.2.1.natAbs < 10 ^ 200 ∧ x.2.2.natAbs < 10 ^ 200) ∧ as.length ≤ 9 ∧ ∀ x ∈ ds, Oks 2 x) (fun X hX => ?_) (fun σ Hx hE => ?_)
              · refine ⟨.ref ag, rfl, Nat.zero_le _, fun u nu => ?_⟩
                have su := same_new (o := .lst []) nu
                have Wu := Wg1.same su
                have Au := Ag.keep (Kp.of su)
                have Du := Dg2.keep (Kp.of su)
                have kzu := kzg.trans (Kp.of su)
                have eagu := kzu _ _ zag eagD
                refine ⟨dInts (fk.map (·.1)), dInts [], Dp.ints eagu, Dp.ints (ns := []) upd_same, (Oks.ints _).shaped, (Oks.ints _).shaped, _, rfl, ?_⟩
                rw [eqv_noInts]
                have freeU : ∀ b, upd Hg1 u (.lst []) b = none → Hj b = none := fun b e => freeG b (su.free e)
                have b0 : ∀ x ∈ laterA z bl ++ [(("come" : Str), z, bl)], x.2.1.natAbs < 10 ^ 200 ∧ x.2.2.natAbs < 10 ^ 200 := fun x m => by
                  simp only [laterA, List.cons_append, List.nil_append, List.mem_cons, List.not_mem_nil, or_false] at m
                  rcases m with rfl | rfl | rfl | rfl | rfl
                  · exact ⟨bz, by show (0 : Int).natAbs < 10 ^ 200; decide⟩
                  · exact ⟨bz, by show (0 : Int).natAbs < 10 ^ 200; decide⟩
                  · exact ⟨bz, by show (3 : Int).natAbs < 10 ^ 200; decide⟩
                  · exact ⟨bz, bbl⟩
                  · exact ⟨bz, bbl⟩
                clear Wg1 Ag Dg2 kzg
                revert su Wu Au Du kzu eagu freeU
                generalize upd Hg1 u (.lst []) = Hu
                intro su Wu Au Du kzu eagu freeU
                by_cases hne : fk.map (·.1) = []
                · have e1 : (fk.map (·.1)).isEmpty = true := by
                    rw [hne]
                    rfl
                  rw [e1]
                  have hAs := asks_later (fk := fk) (as := []) (ds := []) hz hbl .nil
                  rw [List.append_nil, List.append_nil] at hAs
                  exact ifNo rfl (hX _ _ ⟨_, _, ask, du, us1, _, vsd, laterD z bl, rfl, Wu.more (by omega), kzu, Au, Du.reB fun b z => z.1, hAs, b0, (by show 5 ≤ 9; decide), oks_later⟩)
                · have e1 : (fk.map (·.1)).isEmpty = false := by
                    cases he : fk.map (·.1) with
                    | nil => exact absurd he hne
                    | cons _ _ => rfl
                  have hpos : 0 < (fk.map (·.1)).length := by
                    cases he : fk.map (·.1) with
                    | nil => exact absurd he hne
                    | cons _ _ => exact Nat.succ_pos _
                  rw [e1]
                  refine ifYes rfl ?_
                  -- old
                  refine ⟨.ref ag, rfl, .ref t, rfl, .ref ag, rfl, ag, _, rfl, .inl (SqL.of eagu), t, g, _, _, rfl, Wu.deck, by omega, ?_, ?_, fun Hv rv kv Tv a6 b6 => ?_⟩
                  · rw [List.length_map]
                    omega
                  · rw [List.length_map]
                    exact Int.lt_of_lt_of_le (show ((fk.map (·.1)).length : Int) < 21 by omega) (by decide)
                  rw [List.length_map] at b6
                  obtain ⟨Wv, kv2⟩ := Wu.draw kv Tv
                  obtain ⟨j6, rfl⟩ : ∃ j6 : Nat, rv = j6 := ⟨rv.toNat, by omega⟩
                  obtain ⟨old, eold⟩ := at_some (l := fk.map (·.1)) (i := j6) (by omega)
                  have mold := List.mem_of_getElem? eold
                  have bold := bage old mold
                  refine ⟨ag, _, _, .int old, rfl, rfl, SqL.of (kv2 _ _ zag eagu), atI_nat (j := j6) (by rw [List.getElem?_map, eold]; rfl), ?_⟩
                  dsimp only [gName]
                  -- much
                  refine ⟨.ref t, rfl, t, g, _, 9, rfl, Wv.deck, by omega, by decide, by decide, fun Hw much kw Tw a7 b7 => ?_⟩
                  obtain ⟨Ww, kw2⟩ := Wv.draw kw Tw
                  have bmuch : much.natAbs < 10 ^ 200 := Nat.lt_trans (show much.natAbs < 9 by omega) (by decide)
                  have kN := (kv.trans kw).weak hO
                  have Aw := Au.keep kN
                  have Dw := Du.keep (kN.weak fun b z => z.1)
                  have kzw := kzu.trans (kv2.trans kw2)
                  have freeW : ∀ b, Hw b = none → Hj b = none := fun b e => by
                    have e1 := kw.none (Tw.off e) e
                    exact freeU b (kv.none (Tv.off e1) e1)
                  clear Wu Wv Au Du kzu
                  dsimp only [gName]
                  -- asked = asked + [..]
                  refine ⟨.ref ask, rfl, ?_⟩
                  refine show tLst (tAsks [("come", tVar 14, tVar 15), ("come", tVar 14, tVar 11), ("turn", tVar 14, tVar 11)]) _ _ _ from ?_
                  refine Lit.lst (as := oldA old much bl) (.cons (by exact says_var rfl) (by exact says_var rfl) (.cons (by exact says_var rfl) (by exact says_var rfl) (.cons (by exact says_var rfl) (by exact says_var rfl) .nil))) (by show 3 ≤ 1000; decide) fun Hp1 l2 us2 sp1 Ap => ?_
                  have Aw2 := Aw.keep (Kp.of sp1)
                  refine ⟨ask, l2, _, _, rfl, rfl, Aw2.top, Ap.top, ?_, fun ask2 nas => ?_⟩
                  · rw [List.length_map, List.length_map, Aw2.len, Ap.len]
                    show 5 + 3 ≤ sizeLine
                    decide
                  have notask : ¬ (Hj ask2 = none ∧ ∃ v, Hg1 ask2 = some v) := fun ⟨h1, v, e⟩ => by
                    have e2 := sp1 _ _ (kN _ _ h1 (su _ _ e))
                    rw [nas] at e2
                    cases e2
                  have Aq := Aw2.cat (Ap.reB (B' := fun b => Hj b = none) freeW) nas (freeW _ (sp1.free nas))
                  have sq1 := sp1.trans (same_new (o := .lst (us1.map V.ref ++ us2.map V.ref)) nas)
                  have Wq := Ww.same sq1
                  have Dq := Dw.keep (Kp.of sq1)
                  have kzq := kzw.trans (Kp.of sq1)
                  have freeQ : ∀ b, upd Hp1 ask2 (.lst (us1.map V.ref ++ us2.map V.ref)) b = none → Hj b = none := fun b e => freeW b (sq1.free e)
                  clear Ww Aw Aw2 Ap Dw kzw
                  revert Aq Wq Dq kzq freeQ
                  generalize upd Hp1 ask2 (.lst (us1.map V.ref ++ us2.map V.ref)) = Hq
                  generalize us1 ++ us2 = us3
                  intro Aq Wq Dq kzq freeQ
                  dsimp only [gName]
                  -- asked.append(('where', old, 0))
                  refine ⟨.ref ask2, rfl, .inl ⟨rfl, _, SqL.of Aq.top⟩, .int old, rfl, (by show 3 ≤ sizeLine; decide), fun t2 nt2 => ?_⟩
                  have st2 := same_new (o := .tup [.str "where", .int old, .int 0]) nt2
                  have Ar0 := Aq.keep (Kp.of st2)
                  refine ⟨ask2, _, _, rfl, rfl, Ar0.top, ils (by rw [List.length_map, Ar0.len]; show 8 ≤ 100000; decide), ?_⟩
                  have Ar := Ar0.push (tt := t2) (x := (("where" : Str), old, 0)) upd_same (freeQ _ nt2)
                  have Wr := (Wq.same st2).mut (v := .lst (us3.map V.ref ++ [.ref t2])) (hN _ Aq.ba) (h3 _ Aq.ba)
                  have Dr := (Dq.keep (Kp.of st2)).keep (Kp.mut (p := ask2) (o := .lst (us3.map V.ref ++ [.ref t2])) Kp.refl notask)
                  have kzr := (kzq.trans (Kp.of st2)).mut (o := .lst (us3.map V.ref ++ [.ref t2])) (hNZ _ Aq.ba)
                  have freeR : ∀ b, upd (upd Hq t2 (.tup [.str "where", .int old, .int 0])) ask2 (.lst (us3.map V.ref ++ [.ref t2])) b = none → Hj b = none := fun b e => by
                    have n : b ≠ ask2 := fun z => by
                      rw [z, upd_same] at e
                      cases e
                    rw [upd_ne n] at e
                    exact freeQ b (st2.free e)
                  clear Aq Wq Dq kzq Ar0
                  revert Ar Wr Dr kzr freeR
                  generalize upd (upd Hq t2 (.tup [.str "where", .int old, .int 0])) ask2 (.lst (us3.map V.ref ++ [.ref t2])) = Hr
                  generalize us3 ++ [t2] = us4
                  intro Ar Wr Dr kzr freeR
                  dsimp only
                  -- due = due + [..]
                  refine ⟨.ref du, rfl, ?_⟩
                  refine show tLst (tDues [.two (tVar 14) (tVar 15), .two (tVar 14) (tVar 11), .two (tVar 14) (tVar 11), .no]) _ _ _ from ?_
                  refine DLit.lst (K := K) (ds := oldD old much bl) (.two (by exact says_var rfl) (by exact says_var rfl) (.two (by exact says_var rfl) (by exact says_var rfl) (.two (by exact says_var rfl) (by exact says_var rfl) (.no .nil)))) (by show 4 ≤ 1000; decide) fun Hs l3 vs3 ss D3' => ?_
                  have Ds := (Dr.keep (Kp.of ss)).reB (Z' := fun b => Hj b = none) fun b z => z.1
                  refine ⟨du, l3, _, _, rfl, rfl, Ds.top, D3'.top, ?_, fun du2 ndu => ?_⟩
                  · rw [Ds.told.1, D3'.told.1]
                    show 5 + 4 ≤ sizeLine
                    decide
                  have Dt := Ds.cat (D3'.reB (Z' := fun b => Hj b = none) freeR) ndu (freeR _ (ss.free ndu))
                  have su2 := ss.trans (same_new (o := .lst (vsd ++ vs3)) ndu)
                  have hAs := asks_later (fk := fk) hz hbl (asks_old (much := much) mold hbl)
                  rw [← List.append_assoc] at hAs
                  refine hX _ _ ⟨_, _, ask2, du2, us4, _, _, _, rfl, (Wr.same su2).more (by omega), kzr.trans (Kp.of su2), Ar.keep (Kp.of su2), Dt, hAs, fun x m => ?_, (by show 9 ≤ 9; decide), fun x m => (List.mem_append.mp m).elim (oks_later x) (oks_old x)⟩
                  rcases List.mem_append.mp m with m | m
                  · rcases List.mem_append.mp m with m | m
                    · exact b0 x m
                    · simp only [oldA, List.mem_cons, List.not_mem_nil, or_false] at m
                      rcases m with rfl | rfl | rfl
                      · exact ⟨bold, bmuch⟩
                      · exact ⟨bold, bbl⟩
                      · exact ⟨bold, bbl⟩
                  · rw [List.mem_singleton.mp m]
                    exact ⟨bold, by show (0 : Int).natAbs < 10 ^ 200; decide⟩
              · obtain ⟨y14, y15, ask2, du2, sts2, as, vs2, ds, rfl, Wx, kzx, Ax, Dx, hAs, hbd, hla, hok⟩ := hE
                have okd : Oks 3 (.list ds) := .lst hok
                refine ⟨.ref x, rfl, .ref ask2, rfl, _, _, x, d, o, ask2, ts, sts2, fk, fk, as, ds, rfl, Wx.i, hF, Ax, fun b e => hN b e, by omega, hbd, hAs, fun H7 r7 A7 nr7 => ?_⟩
                have kN := A7.kept
                obtain ⟨BB7, ts7, W7, kz7, _, dp7⟩ := Wx.asked A7
                have D7 := Dx.keep (kN.weak hN)
                refine ⟨.ref du2, rfl, .list ds, .list ds, dp7 _ (Same.refl _), D7.dp, okd.shaped, okd.shaped, _, rfl, ?_⟩
                rw [okd.eqv]
                refine iteF ?_
                unfold tTest tOp
                refine ask_tri (j := 4) W7 ?_ hF (by omega) fun H8 th2 s8 TH2 => ?_
                · rfl
                have kz8 := (kzx.trans kz7).trans (Kp.of s8)
                refine ⟨.ref th, rfl, _, _, TH2.dp, (THd.keep kz8).dp, (Oks.tri _ _ _).shaped, (Oks.tri _ _ _).shaped, _, rfl, ?_⟩
                rw [(Oks.tri _ _ _).eqv]
                exact ifNo rfl ⟨_, _, _, _, _, _, _, _, _, _, _, rfl, (W7.same s8).more (by omega), kz8, .inr ⟨z, rfl, hz⟩⟩
            · obtain ⟨y9, y10, y11, y12, y13, y14, y15, y16, y17, BB, ts, rfl, W, kz, hy⟩ := hW
              rcases hy with hy | ⟨z, rfl, hz⟩
              · exact absurd hy (by decide)
              refine ⟨.ref t, rfl, .ref x, rfl, .ref fo, rfl, .int z, rfl, H3, t, g, x, d, o, fo, _, Z, BB, ts, fts, fk, fk, z, rfl, W, GFd.keep kz, List.Perm.refl _, hF, hz, by omega, by show 10000 * i + 600 + 20 * 4 ≤ 900000000; omega, fun H' BB' ts' gk' W' kz' p' => ⟨_, rfl, ?_⟩⟩
              exact ifNo rfl ⟨_, _, _, _, _, _, _, _, _, _, _, _, _, _, _, _, rfl, W'.deck.more (by show 10000 * i + 600 + 20 * 4 + 1 ≤ _; omega)⟩
    · obtain ⟨y2, y3, y4, y5, y6, y7, y8, y9, y10, y11, y12, y13, y14, y15, y16, y17, rfl, T2⟩ := hW
      exact q H2
end
end El
namespace El
open PySem PySem.Spec PyProof.Rows L2
theorem all_mk {l : PySem.W.OpenLaw} {w : World} {K : PySem.W.Frag} {h : Heap} {mg : Str → Option Value} {fa f1 f2 f3 f4 f5 f6 f7 f8 f9 f10 f11 f12 : Addr} (X : K.In h) (G : h.Ns mainGlobals mg) (hfa : mg "law" = some (.ref fa))
    {od1 an1 od2 an2 od3 an3 od4 an4 od5 an5 od6 an6 od7 an7 od8 an8 od9 an9 od10 an10 od11 an11 od12 an12 : Option Addr} {sl1 sl2 sl3 sl4 sl5 sl6 sl7 sl8 sl9 sl10 sl11 sl12 : Array (Option Value)} {oc1 kV1 dc1 pm1 cd1 ct1 oc2 kV2 dc2 pm2 cd2 ct2 oc3 kV3 dc3 pm3 cd3 ct3 oc4 kV4 dc4 pm4 cd4 ct4 oc5 kV5 dc5 pm5 cd5 ct5 oc6 kV6 dc6 pm6 cd6 ct6 oc7 kV7 dc7 pm7 cd7 ct7 oc8 kV8 dc8 pm8 cd8 ct8 oc9 kV9 dc9 pm9 cd9 ct9 oc10 kV10 dc10 pm10 cd10 ct10 oc11 kV11 dc11 pm11 cd11 ct11 oc12 kV12 dc12 pm12 cd12 ct12 : Value}
    (a1 : PySem.W.nsIn K mainGlobals "check_newcomer" = some (some (.ref f1))) (l1 : K.lookup f1 = some ⟨oc1, od1, .func (PySem.W.fnOf "check_newcomer" "check_newcomer" (defArgs s_check_newcomer) (defBody s_check_newcomer) (defScope s_check_newcomer) .none kV1 dc1 pm1 an1 cd1 ct1), sl1⟩) (c1 : PySem.W.codeIn K cd1 "check_newcomer" = true) (k1 : PySem.W.keepIn K (.ref f1) = true)
    (a2 : PySem.W.nsIn K mainGlobals "eldest_upset" = some (some (.ref f2))) (l2 : K.lookup f2 = some ⟨oc2, od2, .func (PySem.W.fnOf "eldest_upset" "eldest_upset" (defArgs s_eldest_upset) (defBody s_eldest_upset) (defScope s_eldest_upset) .none kV2 dc2 pm2 an2 cd2 ct2), sl2⟩) (c2 : PySem.W.codeIn K cd2 "eldest_upset" = true) (k2 : PySem.W.keepIn K (.ref f2) = true)
    (a3 : PySem.W.nsIn K mainGlobals "_law_deck" = some (some (.ref f3))) (l3 : K.lookup f3 = some ⟨oc3, od3, .func (PySem.W.fnOf "_law_deck" "_law_deck" (defArgs s__law_deck) (defBody s__law_deck) (defScope s__law_deck) .none kV3 dc3 pm3 an3 cd3 ct3), sl3⟩) (c3 : PySem.W.codeIn K cd3 "_law_deck" = true) (k3 : PySem.W.keepIn K (.ref f3) = true)
    (a4 : PySem.W.nsIn K mainGlobals "_law_take" = some (some (.ref f4))) (l4 : K.lookup f4 = some ⟨oc4, od4, .func (PySem.W.fnOf "_law_take" "_law_take" (defArgs s__law_take) (defBody s__law_take) (defScope s__law_take) .none kV4 dc4 pm4 an4 cd4 ct4), sl4⟩) (c4 : PySem.W.codeIn K cd4 "_law_take" = true) (k4 : PySem.W.keepIn K (.ref f4) = true)
    (a5 : PySem.W.nsIn K mainGlobals "_law_old" = some (some (.ref f5))) (l5 : K.lookup f5 = some ⟨oc5, od5, .func (PySem.W.fnOf "_law_old" "_law_old" (defArgs s__law_old) (defBody s__law_old) (defScope s__law_old) .none kV5 dc5 pm5 an5 cd5 ct5), sl5⟩) (c5 : PySem.W.codeIn K cd5 "_law_old" = true) (k5 : PySem.W.keepIn K (.ref f5) = true)
    (a6 : PySem.W.nsIn K mainGlobals "_law_folk" = some (some (.ref f6))) (l6 : K.lookup f6 = some ⟨oc6, od6, .func (PySem.W.fnOf "_law_folk" "_law_folk" (defArgs s__law_folk) (defBody s__law_folk) (defScope s__law_folk) .none kV6 dc6 pm6 an6 cd6 ct6), sl6⟩) (c6 : PySem.W.codeIn K cd6 "_law_folk" = true) (k6 : PySem.W.keepIn K (.ref f6) = true)
    (a7 : PySem.W.nsIn K mainGlobals "_law_refusal" = some (some (.ref f7))) (l7 : K.lookup f7 = some ⟨oc7, od7, .func (PySem.W.fnOf "_law_refusal" "_law_refusal" (defArgs s__law_refusal) (defBody s__law_refusal) (defScope s__law_refusal) .none kV7 dc7 pm7 an7 cd7 ct7), sl7⟩) (c7 : PySem.W.codeIn K cd7 "_law_refusal" = true) (k7 : PySem.W.keepIn K (.ref f7) = true)
    (a8 : PySem.W.nsIn K mainGlobals "_law_errors_right" = some (some (.ref f8))) (l8 : K.lookup f8 = some ⟨oc8, od8, .func (PySem.W.fnOf "_law_errors_right" "_law_errors_right" (defArgs s__law_errors_right) (defBody s__law_errors_right) (defScope s__law_errors_right) .none kV8 dc8 pm8 an8 cd8 ct8), sl8⟩) (c8 : PySem.W.codeIn K cd8 "_law_errors_right" = true) (k8 : PySem.W.keepIn K (.ref f8) = true)
    (a9 : PySem.W.nsIn K mainGlobals "_law_asked" = some (some (.ref f9))) (l9 : K.lookup f9 = some ⟨oc9, od9, .func (PySem.W.fnOf "_law_asked" "_law_asked" (defArgs s__law_asked) (defBody s__law_asked) (defScope s__law_asked) .none kV9 dc9 pm9 an9 cd9 ct9), sl9⟩) (c9 : PySem.W.codeIn K cd9 "_law_asked" = true) (k9 : PySem.W.keepIn K (.ref f9) = true)
    (a10 : PySem.W.nsIn K mainGlobals "_law_by_age" = some (some (.ref f10))) (l10 : K.lookup f10 = some ⟨oc10, od10, .func (PySem.W.fnOf "_law_by_age" "_law_by_age" (defArgs s__law_by_age) (defBody s__law_by_age) (defScope s__law_by_age) .none kV10 dc10 pm10 an10 cd10 ct10), sl10⟩) (c10 : PySem.W.codeIn K cd10 "_law_by_age" = true) (k10 : PySem.W.keepIn K (.ref f10) = true)
    (a11 : PySem.W.nsIn K mainGlobals "_law_behind_right" = some (some (.ref f11))) (l11 : K.lookup f11 = some ⟨oc11, od11, .func (PySem.W.fnOf "_law_behind_right" "_law_behind_right" (defArgs s__law_behind_right) (defBody s__law_behind_right) (defScope s__law_behind_right) .none kV11 dc11 pm11 an11 cd11 ct11), sl11⟩) (c11 : PySem.W.codeIn K cd11 "_law_behind_right" = true) (k11 : PySem.W.keepIn K (.ref f11) = true)
    (a12 : PySem.W.nsIn K mainGlobals "law" = some (some (.ref f12))) (l12 : K.lookup f12 = some ⟨oc12, od12, .func (PySem.W.fnOf "law" "law" (defArgs s_law) (defBody s_law) (defScope s_law) .none kV12 dc12 pm12 an12 cd12 ct12), sl12⟩) (c12 : PySem.W.codeIn K cd12 "law" = true) (k12 : PySem.W.keepIn K (.ref f12) = true)
    {C0 : Addr} {CNoGuest fNoGuest NNoGuest : Addr} {nmNoGuest qNoGuest : Str} {bsNoGuest subNoGuest : List Value} {snNoGuest : List Str} {abNoGuest : Bool} {colNoGuest : Option Bool} {ddNoGuest odNoGuest anNoGuest : Option Addr} {m0NoGuest m1NoGuest m2NoGuest m3NoGuest m5NoGuest : Option Value} {ocNoGuest kVNoGuest dcNoGuest pmNoGuest cdNoGuest ctNoGuest : Value} {oslNoGuest : Array (Option Value)} {CNoRooms fNoRooms NNoRooms : Addr} {nmNoRooms qNoRooms : Str} {bsNoRooms subNoRooms : List Value} {snNoRooms : List Str} {abNoRooms : Bool} {colNoRooms : Option Bool} {ddNoRooms odNoRooms anNoRooms : Option Addr} {m0NoRooms m1NoRooms m2NoRooms m3NoRooms m5NoRooms : Option Value} {ocNoRooms kVNoRooms dcNoRooms pmNoRooms cdNoRooms ctNoRooms : Value} {oslNoRooms : Array (Option Value)} {CNoRoom fNoRoom NNoRoom : Addr} {nmNoRoom qNoRoom : Str} {bsNoRoom subNoRoom : List Value} {snNoRoom : List Str} {abNoRoom : Bool} {colNoRoom : Option Bool} {ddNoRoom odNoRoom anNoRoom : Option Addr} {m0NoRoom m1NoRoom m2NoRoom m3NoRoom m5NoRoom : Option Value} {ocNoRoom kVNoRoom dcNoRoom pmNoRoom cdNoRoom ctNoRoom : Value} {oslNoRoom : Array (Option Value)} {CNoCrowd fNoCrowd NNoCrowd : Addr} {nmNoCrowd qNoCrowd : Str} {bsNoCrowd subNoCrowd : List Value} {snNoCrowd : List Str} {abNoCrowd : Bool} {colNoCrowd : Option Bool} {ddNoCrowd odNoCrowd anNoCrowd : Option Addr} {m0NoCrowd m1NoCrowd m2NoCrowd m3NoCrowd m5NoCrowd : Option Value} {ocNoCrowd kVNoCrowd dcNoCrowd pmNoCrowd cdNoCrowd ctNoCrowd : Value} {oslNoCrowd : Array (Option Value)} {CNoText fNoText NNoText : Addr} {nmNoText qNoText : Str} {bsNoText subNoText : List Value} {snNoText : List Str} {abNoText : Bool} {colNoText : Option Bool} {ddNoText odNoText anNoText : Option Addr} {m0NoText m1NoText m2NoText m3NoText m5NoText : Option Value} {ocNoText kVNoText dcNoText pmNoText cdNoText ctNoText : Value} {oslNoText : Array (Option Value)} {C : Addr} {qf0 : Addr} {qod0 qan0 : Option Addr} {qsl0 : Array (Option Value)} {qoc0 qkV0 qdc0 qpm0 qcd0 qct0 : Value} {qf1 : Addr} {qod1 qan1 : Option Addr} {qsl1 : Array (Option Value)} {qoc1 qkV1 qdc1 qpm1 qcd1 qct1 : Value} {qf2 : Addr} {qod2 qan2 : Option Addr} {qsl2 : Array (Option Value)} {qoc2 qkV2 qdc2 qpm2 qcd2 qct2 : Value} {qf3 : Addr} {qod3 qan3 : Option Addr} {qsl3 : Array (Option Value)} {qoc3 qkV3 qdc3 qpm3 qcd3 qct3 : Value} {qf4 : Addr} {qod4 qan4 : Option Addr} {qsl4 : Array (Option Value)} {qoc4 qkV4 qdc4 qpm4 qcd4 qct4 : Value} {qf5 : Addr} {qod5 qan5 : Option Addr} {qsl5 : Array (Option Value)} {qoc5 qkV5 qdc5 qpm5 qcd5 qct5 : Value} {qf6 : Addr} {qod6 qan6 : Option Addr} {qsl6 : Array (Option Value)} {qoc6 qkV6 qdc6 qpm6 qcd6 qct6 : Value} {qf7 : Addr} {qod7 qan7 : Option Addr} {qsl7 : Array (Option Value)} {qoc7 qkV7 qdc7 qpm7 qcd7 qct7 : Value} {qf8 : Addr} {qod8 qan8 : Option Addr} {qsl8 : Array (Option Value)} {qoc8 qkV8 qdc8 qpm8 qcd8 qct8 : Value} {qf9 : Addr} {qod9 qan9 : Option Addr} {qsl9 : Array (Option Value)} {qoc9 qkV9 qdc9 qpm9 qcd9 qct9 : Value} {qf10 : Addr} {qod10 qan10 : Option Addr} {qsl10 : Array (Option Value)} {qoc10 qkV10 qdc10 qpm10 qcd10 qct10 : Value} {qf11 : Addr} {qod11 qan11 : Option Addr} {qsl11 : Array (Option Value)} {qoc11 qkV11 qdc11 qpm11 qcd11 qct11 : Value}
    (aC0 : PySem.W.nsIn K mainGlobals "InnError" = some (some (.ref C0)))
    (rd0 : PySem.W.readsIn K C0 (.type "type") = true)
    (sg0 : PySem.W.specialIn K (.ref C0) "__getattribute__" = some (some (.builtin "type.__getattribute__")))
    (fc0 : PySem.W.findCls K (.ref C0) (.type "type") "__init__" = some (.val (.builtin "ValueError.__init__")))
    (eC0 : PySem.W.subIn K (.ref C0) (.type "BaseException") = some true)
    (hC0 : PySem.W.hasDictIn K C0 = true)
    (tC0 : PySem.W.typeIn K (.ref C0) = some (.type "type"))
    (jn : PySem.W.specialIn K (.builtin "object.__class__") "__get__" = some (some (.builtin "getset_descriptor.__get__")))
    (jt : PySem.W.takesIn K (.builtin "object.__class__") = some true)
    (gNoGuest : PySem.W.nsIn K mainGlobals "NoGuest" = some (some (.ref CNoGuest)))
    (xlNoGuest : K.lookup CNoGuest = some (excClassObj nmNoGuest qNoGuest CNoGuest NNoGuest bsNoGuest [.ref C0, .type "ValueError", .type "Exception", .type "BaseException", .type "object"] true snNoGuest subNoGuest abNoGuest colNoGuest ddNoGuest m0NoGuest m1NoGuest m2NoGuest m3NoGuest m5NoGuest "ValueError.__new__"))
    (saNoGuest : PySem.W.findIn K (.ref CNoGuest) "__setattr__" = some (some (.builtin "object.__setattr__")))
    (gaNoGuest : PySem.W.findIn K (.ref CNoGuest) "__getattribute__" = some (some (.builtin "BaseException.__getattribute__")))
    (ggNoGuest : PySem.W.findIn K (.ref CNoGuest) "__getattr__" = some none)
    (nwNoGuest : PySem.W.findIn K (.ref CNoGuest) "what" = some none)
    (aiNoGuest : PySem.W.findIn K (.ref CNoGuest) "__init__" = some (some (.ref fNoGuest)))
    (tiNoGuest : PySem.W.typeIn K (.ref fNoGuest) = some (.type "function"))
    (liNoGuest : K.lookup fNoGuest = some ⟨ocNoGuest, odNoGuest, .func (PySem.W.fnOf "__init__" "NoGuest.__init__" (defArgs sI_NoGuest) (defBody sI_NoGuest) (defScope sI_NoGuest) .none kVNoGuest dcNoGuest pmNoGuest anNoGuest cdNoGuest ctNoGuest), oslNoGuest⟩)
    (ciNoGuest : PySem.W.codeIn K cdNoGuest "NoGuest.__init__" = true)
    (kiNoGuest : PySem.W.keepIn K (.ref fNoGuest) = true)
    (kCNoGuest : PySem.W.keepIn K (.ref CNoGuest) = true)
    (eCNoGuest : PySem.W.subIn K (.ref CNoGuest) (.type "BaseException") = some true)
    (tCNoGuest : PySem.W.typeIn K (.ref CNoGuest) = some (.type "type"))
    (hCNoGuest : PySem.W.hasDictIn K CNoGuest = true)
    (clNoGuest : PySem.W.isClsIn K CNoGuest = true)
    (svNoGuest : PySem.W.subIn K (.ref CNoGuest) (.type "ValueError") = some true)
    (acNoGuest : PySem.W.findIn K (.ref CNoGuest) "__class__" = some (some (.builtin "object.__class__")))
    (moNoGuest : PySem.W.mroIn K CNoGuest (.type "object") = some true)
    (suNoGuest : PySem.W.subIn K (.ref CNoGuest) (.ref C0) = some true)
    (gNoRooms : PySem.W.nsIn K mainGlobals "NoRooms" = some (some (.ref CNoRooms)))
    (xlNoRooms : K.lookup CNoRooms = some (excClassObj nmNoRooms qNoRooms CNoRooms NNoRooms bsNoRooms [.ref C0, .type "ValueError", .type "Exception", .type "BaseException", .type "object"] true snNoRooms subNoRooms abNoRooms colNoRooms ddNoRooms m0NoRooms m1NoRooms m2NoRooms m3NoRooms m5NoRooms "ValueError.__new__"))
    (saNoRooms : PySem.W.findIn K (.ref CNoRooms) "__setattr__" = some (some (.builtin "object.__setattr__")))
    (gaNoRooms : PySem.W.findIn K (.ref CNoRooms) "__getattribute__" = some (some (.builtin "BaseException.__getattribute__")))
    (ggNoRooms : PySem.W.findIn K (.ref CNoRooms) "__getattr__" = some none)
    (nwNoRooms : PySem.W.findIn K (.ref CNoRooms) "what" = some none)
    (aiNoRooms : PySem.W.findIn K (.ref CNoRooms) "__init__" = some (some (.ref fNoRooms)))
    (tiNoRooms : PySem.W.typeIn K (.ref fNoRooms) = some (.type "function"))
    (liNoRooms : K.lookup fNoRooms = some ⟨ocNoRooms, odNoRooms, .func (PySem.W.fnOf "__init__" "NoRooms.__init__" (defArgs sI_NoRooms) (defBody sI_NoRooms) (defScope sI_NoRooms) .none kVNoRooms dcNoRooms pmNoRooms anNoRooms cdNoRooms ctNoRooms), oslNoRooms⟩)
    (ciNoRooms : PySem.W.codeIn K cdNoRooms "NoRooms.__init__" = true)
    (kiNoRooms : PySem.W.keepIn K (.ref fNoRooms) = true)
    (kCNoRooms : PySem.W.keepIn K (.ref CNoRooms) = true)
    (eCNoRooms : PySem.W.subIn K (.ref CNoRooms) (.type "BaseException") = some true)
    (tCNoRooms : PySem.W.typeIn K (.ref CNoRooms) = some (.type "type"))
    (hCNoRooms : PySem.W.hasDictIn K CNoRooms = true)
    (clNoRooms : PySem.W.isClsIn K CNoRooms = true)
    (svNoRooms : PySem.W.subIn K (.ref CNoRooms) (.type "ValueError") = some true)
    (acNoRooms : PySem.W.findIn K (.ref CNoRooms) "__class__" = some (some (.builtin "object.__class__")))
    (moNoRooms : PySem.W.mroIn K CNoRooms (.type "object") = some true)
    (suNoRooms : PySem.W.subIn K (.ref CNoRooms) (.ref C0) = some true)
    (gNoRoom : PySem.W.nsIn K mainGlobals "NoRoom" = some (some (.ref CNoRoom)))
    (xlNoRoom : K.lookup CNoRoom = some (excClassObj nmNoRoom qNoRoom CNoRoom NNoRoom bsNoRoom [.ref C0, .type "ValueError", .type "Exception", .type "BaseException", .type "object"] true snNoRoom subNoRoom abNoRoom colNoRoom ddNoRoom m0NoRoom m1NoRoom m2NoRoom m3NoRoom m5NoRoom "ValueError.__new__"))
    (saNoRoom : PySem.W.findIn K (.ref CNoRoom) "__setattr__" = some (some (.builtin "object.__setattr__")))
    (gaNoRoom : PySem.W.findIn K (.ref CNoRoom) "__getattribute__" = some (some (.builtin "BaseException.__getattribute__")))
    (ggNoRoom : PySem.W.findIn K (.ref CNoRoom) "__getattr__" = some none)
    (nwNoRoom : PySem.W.findIn K (.ref CNoRoom) "what" = some none)
    (aiNoRoom : PySem.W.findIn K (.ref CNoRoom) "__init__" = some (some (.ref fNoRoom)))
    (tiNoRoom : PySem.W.typeIn K (.ref fNoRoom) = some (.type "function"))
    (liNoRoom : K.lookup fNoRoom = some ⟨ocNoRoom, odNoRoom, .func (PySem.W.fnOf "__init__" "NoRoom.__init__" (defArgs sI_NoRoom) (defBody sI_NoRoom) (defScope sI_NoRoom) .none kVNoRoom dcNoRoom pmNoRoom anNoRoom cdNoRoom ctNoRoom), oslNoRoom⟩)
    (ciNoRoom : PySem.W.codeIn K cdNoRoom "NoRoom.__init__" = true)
    (kiNoRoom : PySem.W.keepIn K (.ref fNoRoom) = true)
    (kCNoRoom : PySem.W.keepIn K (.ref CNoRoom) = true)
    (eCNoRoom : PySem.W.subIn K (.ref CNoRoom) (.type "BaseException") = some true)
    (tCNoRoom : PySem.W.typeIn K (.ref CNoRoom) = some (.type "type"))
    (hCNoRoom : PySem.W.hasDictIn K CNoRoom = true)
    (clNoRoom : PySem.W.isClsIn K CNoRoom = true)
    (svNoRoom : PySem.W.subIn K (.ref CNoRoom) (.type "ValueError") = some true)
    (acNoRoom : PySem.W.findIn K (.ref CNoRoom) "__class__" = some (some (.builtin "object.__class__")))
    (moNoRoom : PySem.W.mroIn K CNoRoom (.type "object") = some true)
    (suNoRoom : PySem.W.subIn K (.ref CNoRoom) (.ref C0) = some true)
    (gNoCrowd : PySem.W.nsIn K mainGlobals "NoCrowd" = some (some (.ref CNoCrowd)))
    (xlNoCrowd : K.lookup CNoCrowd = some (excClassObj nmNoCrowd qNoCrowd CNoCrowd NNoCrowd bsNoCrowd [.ref C0, .type "ValueError", .type "Exception", .type "BaseException", .type "object"] true snNoCrowd subNoCrowd abNoCrowd colNoCrowd ddNoCrowd m0NoCrowd m1NoCrowd m2NoCrowd m3NoCrowd m5NoCrowd "ValueError.__new__"))
    (saNoCrowd : PySem.W.findIn K (.ref CNoCrowd) "__setattr__" = some (some (.builtin "object.__setattr__")))
    (gaNoCrowd : PySem.W.findIn K (.ref CNoCrowd) "__getattribute__" = some (some (.builtin "BaseException.__getattribute__")))
    (ggNoCrowd : PySem.W.findIn K (.ref CNoCrowd) "__getattr__" = some none)
    (nwNoCrowd : PySem.W.findIn K (.ref CNoCrowd) "what" = some none)
    (aiNoCrowd : PySem.W.findIn K (.ref CNoCrowd) "__init__" = some (some (.ref fNoCrowd)))
    (tiNoCrowd : PySem.W.typeIn K (.ref fNoCrowd) = some (.type "function"))
    (liNoCrowd : K.lookup fNoCrowd = some ⟨ocNoCrowd, odNoCrowd, .func (PySem.W.fnOf "__init__" "NoCrowd.__init__" (defArgs sI_NoCrowd) (defBody sI_NoCrowd) (defScope sI_NoCrowd) .none kVNoCrowd dcNoCrowd pmNoCrowd anNoCrowd cdNoCrowd ctNoCrowd), oslNoCrowd⟩)
    (ciNoCrowd : PySem.W.codeIn K cdNoCrowd "NoCrowd.__init__" = true)
    (kiNoCrowd : PySem.W.keepIn K (.ref fNoCrowd) = true)
    (kCNoCrowd : PySem.W.keepIn K (.ref CNoCrowd) = true)
    (eCNoCrowd : PySem.W.subIn K (.ref CNoCrowd) (.type "BaseException") = some true)
    (tCNoCrowd : PySem.W.typeIn K (.ref CNoCrowd) = some (.type "type"))
    (hCNoCrowd : PySem.W.hasDictIn K CNoCrowd = true)
    (clNoCrowd : PySem.W.isClsIn K CNoCrowd = true)
    (svNoCrowd : PySem.W.subIn K (.ref CNoCrowd) (.type "ValueError") = some true)
    (acNoCrowd : PySem.W.findIn K (.ref CNoCrowd) "__class__" = some (some (.builtin "object.__class__")))
    (moNoCrowd : PySem.W.mroIn K CNoCrowd (.type "object") = some true)
    (suNoCrowd : PySem.W.subIn K (.ref CNoCrowd) (.ref C0) = some true)
    (gNoText : PySem.W.nsIn K mainGlobals "NoText" = some (some (.ref CNoText)))
    (xlNoText : K.lookup CNoText = some (excClassObj nmNoText qNoText CNoText NNoText bsNoText [.ref C0, .type "ValueError", .type "Exception", .type "BaseException", .type "object"] true snNoText subNoText abNoText colNoText ddNoText m0NoText m1NoText m2NoText m3NoText m5NoText "ValueError.__new__"))
    (saNoText : PySem.W.findIn K (.ref CNoText) "__setattr__" = some (some (.builtin "object.__setattr__")))
    (gaNoText : PySem.W.findIn K (.ref CNoText) "__getattribute__" = some (some (.builtin "BaseException.__getattribute__")))
    (ggNoText : PySem.W.findIn K (.ref CNoText) "__getattr__" = some none)
    (nwNoText : PySem.W.findIn K (.ref CNoText) "what" = some none)
    (aiNoText : PySem.W.findIn K (.ref CNoText) "__init__" = some (some (.ref fNoText)))
    (tiNoText : PySem.W.typeIn K (.ref fNoText) = some (.type "function"))
    (liNoText : K.lookup fNoText = some ⟨ocNoText, odNoText, .func (PySem.W.fnOf "__init__" "NoText.__init__" (defArgs sI_NoText) (defBody sI_NoText) (defScope sI_NoText) .none kVNoText dcNoText pmNoText anNoText cdNoText ctNoText), oslNoText⟩)
    (ciNoText : PySem.W.codeIn K cdNoText "NoText.__init__" = true)
    (kiNoText : PySem.W.keepIn K (.ref fNoText) = true)
    (kCNoText : PySem.W.keepIn K (.ref CNoText) = true)
    (eCNoText : PySem.W.subIn K (.ref CNoText) (.type "BaseException") = some true)
    (tCNoText : PySem.W.typeIn K (.ref CNoText) = some (.type "type"))
    (hCNoText : PySem.W.hasDictIn K CNoText = true)
    (clNoText : PySem.W.isClsIn K CNoText = true)
    (svNoText : PySem.W.subIn K (.ref CNoText) (.type "ValueError") = some true)
    (acNoText : PySem.W.findIn K (.ref CNoText) "__class__" = some (some (.builtin "object.__class__")))
    (moNoText : PySem.W.mroIn K CNoText (.type "object") = some true)
    (suNoText : PySem.W.subIn K (.ref CNoText) (.ref C0) = some true)
    (suNoGuestNoRooms : PySem.W.subIn K (.ref CNoGuest) (.ref CNoRooms) = some false)
    (neNoGuestNoRooms : CNoGuest ≠ CNoRooms)
    (suNoGuestNoRoom : PySem.W.subIn K (.ref CNoGuest) (.ref CNoRoom) = some false)
    (neNoGuestNoRoom : CNoGuest ≠ CNoRoom)
    (suNoGuestNoCrowd : PySem.W.subIn K (.ref CNoGuest) (.ref CNoCrowd) = some false)
    (neNoGuestNoCrowd : CNoGuest ≠ CNoCrowd)
    (suNoGuestNoText : PySem.W.subIn K (.ref CNoGuest) (.ref CNoText) = some false)
    (neNoGuestNoText : CNoGuest ≠ CNoText)
    (suNoRoomsNoGuest : PySem.W.subIn K (.ref CNoRooms) (.ref CNoGuest) = some false)
    (neNoRoomsNoGuest : CNoRooms ≠ CNoGuest)
    (suNoRoomsNoRoom : PySem.W.subIn K (.ref CNoRooms) (.ref CNoRoom) = some false)
    (neNoRoomsNoRoom : CNoRooms ≠ CNoRoom)
    (suNoRoomsNoCrowd : PySem.W.subIn K (.ref CNoRooms) (.ref CNoCrowd) = some false)
    (neNoRoomsNoCrowd : CNoRooms ≠ CNoCrowd)
    (suNoRoomsNoText : PySem.W.subIn K (.ref CNoRooms) (.ref CNoText) = some false)
    (neNoRoomsNoText : CNoRooms ≠ CNoText)
    (suNoRoomNoGuest : PySem.W.subIn K (.ref CNoRoom) (.ref CNoGuest) = some false)
    (neNoRoomNoGuest : CNoRoom ≠ CNoGuest)
    (suNoRoomNoRooms : PySem.W.subIn K (.ref CNoRoom) (.ref CNoRooms) = some false)
    (neNoRoomNoRooms : CNoRoom ≠ CNoRooms)
    (suNoRoomNoCrowd : PySem.W.subIn K (.ref CNoRoom) (.ref CNoCrowd) = some false)
    (neNoRoomNoCrowd : CNoRoom ≠ CNoCrowd)
    (suNoRoomNoText : PySem.W.subIn K (.ref CNoRoom) (.ref CNoText) = some false)
    (neNoRoomNoText : CNoRoom ≠ CNoText)
    (suNoCrowdNoGuest : PySem.W.subIn K (.ref CNoCrowd) (.ref CNoGuest) = some false)
    (neNoCrowdNoGuest : CNoCrowd ≠ CNoGuest)
    (suNoCrowdNoRooms : PySem.W.subIn K (.ref CNoCrowd) (.ref CNoRooms) = some false)
    (neNoCrowdNoRooms : CNoCrowd ≠ CNoRooms)
    (suNoCrowdNoRoom : PySem.W.subIn K (.ref CNoCrowd) (.ref CNoRoom) = some false)
    (neNoCrowdNoRoom : CNoCrowd ≠ CNoRoom)
    (suNoCrowdNoText : PySem.W.subIn K (.ref CNoCrowd) (.ref CNoText) = some false)
    (neNoCrowdNoText : CNoCrowd ≠ CNoText)
    (suNoTextNoGuest : PySem.W.subIn K (.ref CNoText) (.ref CNoGuest) = some false)
    (neNoTextNoGuest : CNoText ≠ CNoGuest)
    (suNoTextNoRooms : PySem.W.subIn K (.ref CNoText) (.ref CNoRooms) = some false)
    (neNoTextNoRooms : CNoText ≠ CNoRooms)
    (suNoTextNoRoom : PySem.W.subIn K (.ref CNoText) (.ref CNoRoom) = some false)
    (neNoTextNoRoom : CNoText ≠ CNoRoom)
    (suNoTextNoCrowd : PySem.W.subIn K (.ref CNoText) (.ref CNoCrowd) = some false)
    (neNoTextNoCrowd : CNoText ≠ CNoCrowd)
    (q0 : PySem.W.excIn K C0 [.type "ValueError", .type "Exception", .type "BaseException", .type "object"] "ValueError.__new__" = true)
    (kp0 : PySem.W.keepIn K (.ref C0) = true)
    (ga0 : PySem.W.findIn K (.ref C0) "__getattribute__" = some (some (.builtin "BaseException.__getattribute__")))
    (gg0 : PySem.W.findIn K (.ref C0) "__getattr__" = some none)
    (ac0 : PySem.W.findIn K (.ref C0) "__class__" = some (some (.builtin "object.__class__")))
    (mo0 : PySem.W.mroIn K C0 (.type "object") = some true)
    (cl0 : PySem.W.isClsIn K C0 = true)
    (sv0 : PySem.W.subIn K (.ref C0) (.type "ValueError") = some true)
    (yC : PySem.W.nsIn K mainGlobals "Inn" = some (some (.ref C)))
    (ypg : PySem.W.plainGet K C Str.empty = true)
    (yhd : PySem.W.hasDictIn K C = true)
    (ypo : PySem.W.plainOver K C = true)
    (ysa : PySem.W.findIn K (.ref C) "__setattr__" = some (some (.builtin "object.__setattr__")))
    (ymk : PySem.W.makesIn K C = true)
    (ykc : PySem.W.keepIn K (.ref C) = true)
    (yn0 : PySem.W.findIn K (.ref C) "_patience_of" = some none)
    (yn1 : PySem.W.findIn K (.ref C) "_rooms" = some none)
    (qa0 : PySem.W.findIn K (.ref C) "__init__" = some (some (.ref qf0)))
    (qi0 : PySem.W.isFn K (.ref qf0) = true)
    (ql0 : K.lookup qf0 = some ⟨qoc0, qod0, .func (PySem.W.fnOf "__init__" "Inn.__init__" (defArgs s_Inn___init__) (defBody s_Inn___init__) (defScope s_Inn___init__) .none qkV0 qdc0 qpm0 qan0 qcd0 qct0), qsl0⟩)
    (qc0 : PySem.W.codeIn K qcd0 "Inn.__init__" = true)
    (qk0 : PySem.W.keepIn K (.ref qf0) = true)
    (qa1 : PySem.W.findIn K (.ref C) "_enter" = some (some (.ref qf1)))
    (qi1 : PySem.W.isFn K (.ref qf1) = true)
    (ql1 : K.lookup qf1 = some ⟨qoc1, qod1, .func (PySem.W.fnOf "_enter" "Inn._enter" (defArgs s_Inn__enter) (defBody s_Inn__enter) (defScope s_Inn__enter) .none qkV1 qdc1 qpm1 qan1 qcd1 qct1), qsl1⟩)
    (qc1 : PySem.W.codeIn K qcd1 "Inn._enter" = true)
    (qk1 : PySem.W.keepIn K (.ref qf1) = true)
    (qa2 : PySem.W.findIn K (.ref C) "come" = some (some (.ref qf2)))
    (qi2 : PySem.W.isFn K (.ref qf2) = true)
    (ql2 : K.lookup qf2 = some ⟨qoc2, qod2, .func (PySem.W.fnOf "come" "Inn.come" (defArgs s_Inn_come) (defBody s_Inn_come) (defScope s_Inn_come) .none qkV2 qdc2 qpm2 qan2 qcd2 qct2), qsl2⟩)
    (qc2 : PySem.W.codeIn K qcd2 "Inn.come" = true)
    (qk2 : PySem.W.keepIn K (.ref qf2) = true)
    (qa3 : PySem.W.findIn K (.ref C) "rooms" = some (some (.ref qf3)))
    (qi3 : PySem.W.isFn K (.ref qf3) = true)
    (ql3 : K.lookup qf3 = some ⟨qoc3, qod3, .func (PySem.W.fnOf "rooms" "Inn.rooms" (defArgs s_Inn_rooms) (defBody s_Inn_rooms) (defScope s_Inn_rooms) .none qkV3 qdc3 qpm3 qan3 qcd3 qct3), qsl3⟩)
    (qc3 : PySem.W.codeIn K qcd3 "Inn.rooms" = true)
    (qk3 : PySem.W.keepIn K (.ref qf3) = true)
    (qa4 : PySem.W.findIn K (.ref C) "_check_there" = some (some (.ref qf4)))
    (qi4 : PySem.W.isFn K (.ref qf4) = true)
    (ql4 : K.lookup qf4 = some ⟨qoc4, qod4, .func (PySem.W.fnOf "_check_there" "Inn._check_there" (defArgs s_Inn__check_there) (defBody s_Inn__check_there) (defScope s_Inn__check_there) .none qkV4 qdc4 qpm4 qan4 qcd4 qct4), qsl4⟩)
    (qc4 : PySem.W.codeIn K qcd4 "Inn._check_there" = true)
    (qk4 : PySem.W.keepIn K (.ref qf4) = true)
    (qa5 : PySem.W.findIn K (.ref C) "where" = some (some (.ref qf5)))
    (qi5 : PySem.W.isFn K (.ref qf5) = true)
    (ql5 : K.lookup qf5 = some ⟨qoc5, qod5, .func (PySem.W.fnOf "where" "Inn.where" (defArgs s_Inn_where) (defBody s_Inn_where) (defScope s_Inn_where) .none qkV5 qdc5 qpm5 qan5 qcd5 qct5), qsl5⟩)
    (qc5 : PySem.W.codeIn K qcd5 "Inn.where" = true)
    (qk5 : PySem.W.keepIn K (.ref qf5) = true)
    (qa6 : PySem.W.findIn K (.ref C) "_bears" = some (some (.ref qf6)))
    (qi6 : PySem.W.isFn K (.ref qf6) = true)
    (ql6 : K.lookup qf6 = some ⟨qoc6, qod6, .func (PySem.W.fnOf "_bears" "Inn._bears" (defArgs s_Inn__bears) (defBody s_Inn__bears) (defScope s_Inn__bears) .none qkV6 qdc6 qpm6 qan6 qcd6 qct6), qsl6⟩)
    (qc6 : PySem.W.codeIn K qcd6 "Inn._bears" = true)
    (qk6 : PySem.W.keepIn K (.ref qf6) = true)
    (qa7 : PySem.W.findIn K (.ref C) "_eldest_back" = some (some (.ref qf7)))
    (qi7 : PySem.W.isFn K (.ref qf7) = true)
    (ql7 : K.lookup qf7 = some ⟨qoc7, qod7, .func (PySem.W.fnOf "_eldest_back" "Inn._eldest_back" (defArgs s_Inn__eldest_back) (defBody s_Inn__eldest_back) (defScope s_Inn__eldest_back) .none qkV7 qdc7 qpm7 qan7 qcd7 qct7), qsl7⟩)
    (qc7 : PySem.W.codeIn K qcd7 "Inn._eldest_back" = true)
    (qk7 : PySem.W.keepIn K (.ref qf7) = true)
    (qa8 : PySem.W.findIn K (.ref C) "go" = some (some (.ref qf8)))
    (qi8 : PySem.W.isFn K (.ref qf8) = true)
    (ql8 : K.lookup qf8 = some ⟨qoc8, qod8, .func (PySem.W.fnOf "go" "Inn.go" (defArgs s_Inn_go) (defBody s_Inn_go) (defScope s_Inn_go) .none qkV8 qdc8 qpm8 qan8 qcd8 qct8), qsl8⟩)
    (qc8 : PySem.W.codeIn K qcd8 "Inn.go" = true)
    (qk8 : PySem.W.keepIn K (.ref qf8) = true)
    (qa9 : PySem.W.findIn K (.ref C) "turn" = some (some (.ref qf9)))
    (qi9 : PySem.W.isFn K (.ref qf9) = true)
    (ql9 : K.lookup qf9 = some ⟨qoc9, qod9, .func (PySem.W.fnOf "turn" "Inn.turn" (defArgs s_Inn_turn) (defBody s_Inn_turn) (defScope s_Inn_turn) .none qkV9 qdc9 qpm9 qan9 qcd9 qct9), qsl9⟩)
    (qc9 : PySem.W.codeIn K qcd9 "Inn.turn" = true)
    (qk9 : PySem.W.keepIn K (.ref qf9) = true)
    (qa10 : PySem.W.findIn K (.ref C) "guests" = some (some (.ref qf10)))
    (qi10 : PySem.W.isFn K (.ref qf10) = true)
    (ql10 : K.lookup qf10 = some ⟨qoc10, qod10, .func (PySem.W.fnOf "guests" "Inn.guests" (defArgs s_Inn_guests) (defBody s_Inn_guests) (defScope s_Inn_guests) .none qkV10 qdc10 qpm10 qan10 qcd10 qct10), qsl10⟩)
    (qc10 : PySem.W.codeIn K qcd10 "Inn.guests" = true)
    (qk10 : PySem.W.keepIn K (.ref qf10) = true)
    (qa11 : PySem.W.findIn K (.ref C) "__len__" = some (some (.ref qf11)))
    (qi11 : PySem.W.isFn K (.ref qf11) = true)
    (ql11 : K.lookup qf11 = some ⟨qoc11, qod11, .func (PySem.W.fnOf "__len__" "Inn.__len__" (defArgs s_Inn___len__) (defBody s_Inn___len__) (defScope s_Inn___len__) .none qkV11 qdc11 qpm11 qan11 qcd11 qct11), qsl11⟩)
    (qc11 : PySem.W.codeIn K qcd11 "Inn.__len__" = true)
    (qk11 : PySem.W.keepIn K (.ref qf11) = true)
    (z1 : PySem.W.nsIn K mainGlobals "len" = some none) (z2 : PySem.W.nsIn K mainGlobals "range" = some none) (z3 : PySem.W.nsIn K mainGlobals "enumerate" = some none) (z4 : PySem.W.nsIn K mainGlobals "sorted" = some none) (z5 : PySem.W.nsIn K mainGlobals "sum" = some none) (z6 : PySem.W.nsIn K mainGlobals "min" = some none) (z7 : PySem.W.nsIn K mainGlobals "max" = some none) (z8 : PySem.W.nsIn K mainGlobals "isinstance" = some none) (z9 : PySem.W.nsIn K mainGlobals "zip" = some none) (z10 : PySem.W.nsIn K mainGlobals "list" = some none) (z11 : PySem.W.nsIn K mainGlobals "tuple" = some none) (z12 : PySem.W.nsIn K mainGlobals "int" = some none) (z13 : PySem.W.nsIn K mainGlobals "bool" = some none) (z14 : PySem.W.nsIn K mainGlobals "str" = some none) (z15 : PySem.W.nsIn K mainGlobals "abs" = some none) (z16 : PySem.W.nsIn K mainGlobals "repr" = some none) (z17 : PySem.W.nsIn K mainGlobals "dict" = some none) (z18 : PySem.W.nsIn K mainGlobals "any" = some none) (z19 : PySem.W.nsIn K mainGlobals "all" = some none) (z20 : PySem.W.nsIn K mainGlobals "set" = some none) (z21 : PySem.W.nsIn K mainGlobals "reversed" = some none) (z22 : PySem.W.nsIn K mainGlobals "ValueError" = some none) (z23 : PySem.W.nsIn K mainGlobals "divmod" = some none) :
    ∃ fd : FuncData, (∀ (s : Shared) (v : Value), BindsTo s fd ⟨[v], []⟩ [("script", v)]) ∧ ∀ base : Heap, K.In base → base.Ns mainGlobals mg → FnOk l.prog w K mg base CX0 8 fa fd ["script"] (sp_law K) := by
  obtain rfl : f12 = fa := by
    have e := (PySem.W.mg_of X G a12).symm.trans hfa
    injection e with e
    injection e
  have B : Bi mg := ⟨PySem.W.mg_none_of X G z1, PySem.W.mg_none_of X G z2, PySem.W.mg_none_of X G z3, PySem.W.mg_none_of X G z4, PySem.W.mg_none_of X G z5, PySem.W.mg_none_of X G z6, PySem.W.mg_none_of X G z7, PySem.W.mg_none_of X G z8, PySem.W.mg_none_of X G z9, PySem.W.mg_none_of X G z10, PySem.W.mg_none_of X G z11, PySem.W.mg_none_of X G z12, PySem.W.mg_none_of X G z13, PySem.W.mg_none_of X G z14, PySem.W.mg_none_of X G z15, PySem.W.mg_none_of X G z16, PySem.W.mg_none_of X G z17, PySem.W.mg_none_of X G z18, PySem.W.mg_none_of X G z19, PySem.W.mg_none_of X G z20, PySem.W.mg_none_of X G z21, PySem.W.mg_none_of X G z22, PySem.W.mg_none_of X G z23⟩
  have A1 : At K mg "check_newcomer" P_check_newcomer s_check_newcomer := .mk' X G a1 l1 c1 k1 fun _ _ _ _ _ _ us hl => match us, hl with | [_, _, _], _ => rfl
  have A2 : At K mg "eldest_upset" P_eldest_upset s_eldest_upset := .mk' X G a2 l2 c2 k2 fun _ _ _ _ _ _ us hl => match us, hl with | [_, _], _ => rfl
  have A3 : At K mg "_law_deck" P__law_deck s__law_deck := .mk' X G a3 l3 c3 k3 fun _ _ _ _ _ _ us hl => match us, hl with | [_], _ => rfl
  have A4 : At K mg "_law_take" P__law_take s__law_take := .mk' X G a4 l4 c4 k4 fun _ _ _ _ _ _ us hl => match us, hl with | [_, _], _ => rfl
  have A5 : At K mg "_law_old" P__law_old s__law_old := .mk' X G a5 l5 c5 k5 fun _ _ _ _ _ _ us hl => match us, hl with | [_, _], _ => rfl
  have A6 : At K mg "_law_folk" P__law_folk s__law_folk := .mk' X G a6 l6 c6 k6 fun _ _ _ _ _ _ us hl => match us, hl with | [_, _], _ => rfl
  have A7 : At K mg "_law_refusal" P__law_refusal s__law_refusal := .mk' X G a7 l7 c7 k7 fun _ _ _ _ _ _ us hl => match us, hl with | [_, _, _, _], _ => rfl
  have A8 : At K mg "_law_errors_right" P__law_errors_right s__law_errors_right := .mk' X G a8 l8 c8 k8 fun _ _ _ _ _ _ us hl => match us, hl with | [], _ => rfl
  have A9 : At K mg "_law_asked" P__law_asked s__law_asked := .mk' X G a9 l9 c9 k9 fun _ _ _ _ _ _ us hl => match us, hl with | [_, _], _ => rfl
  have A10 : At K mg "_law_by_age" P__law_by_age s__law_by_age := .mk' X G a10 l10 c10 k10 fun _ _ _ _ _ _ us hl => match us, hl with | [_], _ => rfl
  have A11 : At K mg "_law_behind_right" P__law_behind_right s__law_behind_right := .mk' X G a11 l11 c11 k11 fun _ _ _ _ _ _ us hl => match us, hl with | [_, _, _, _], _ => rfl
  have A12 : At K mg "law" P_law s_law := .mk' X G a12 l12 c12 k12 fun _ _ _ _ _ _ us hl => match us, hl with | [_], _ => rfl
  refine ⟨PySem.W.fnOf "law" "law" (defArgs s_law) (defBody s_law) (defScope s_law) .none kV12 dc12 pm12 an12 cd12 ct12, fun s v => .of_eq rfl, fun base _ _ => ?_⟩
  have T0 : InnC K mg C0 := ⟨PySem.W.mg_of X G aC0, rd0, sg0, fc0⟩
  have JX : IsX K := ⟨jn, jt⟩
  have ONoGuest : Own K mg "NoGuest" CNoGuest fNoGuest := ⟨PySem.W.mg_of X G gNoGuest, ⟨⟨nmNoGuest, qNoGuest, NNoGuest, bsNoGuest, _, snNoGuest, subNoGuest, abNoGuest, colNoGuest, ddNoGuest, m0NoGuest, m1NoGuest, m2NoGuest, m3NoGuest, m5NoGuest, xlNoGuest, own_mro C0⟩, saNoGuest, eCNoGuest, tCNoGuest, kCNoGuest⟩, ⟨gaNoGuest, ggNoGuest, eCNoGuest, hCNoGuest⟩, nwNoGuest, aiNoGuest, tiNoGuest, clNoGuest, acNoGuest, moNoGuest⟩
  have E_NoGuest := own_NoGuest (P := l.prog) (w := w) (base := base) ONoGuest (fun_mk (st := sI_NoGuest) liNoGuest ciNoGuest kiNoGuest) T0
  have kv_NoGuest := kit_ve svNoGuest
  have k_NoGuest_NoGuest := kit_self (K := K) CNoGuest
  have k_NoGuest_NoRooms := kit_no suNoGuestNoRooms clNoRooms tCNoRooms neNoGuestNoRooms
  have k_NoGuest_NoRoom := kit_no suNoGuestNoRoom clNoRoom tCNoRoom neNoGuestNoRoom
  have k_NoGuest_NoCrowd := kit_no suNoGuestNoCrowd clNoCrowd tCNoCrowd neNoGuestNoCrowd
  have k_NoGuest_NoText := kit_no suNoGuestNoText clNoText tCNoText neNoGuestNoText
  have teNoGuest : PySem.W.exmOne K (.ref CNoGuest) (.ref C0) = some true := te_of eC0 hC0 tC0 suNoGuest
  have ONoRooms : Own K mg "NoRooms" CNoRooms fNoRooms := ⟨PySem.W.mg_of X G gNoRooms, ⟨⟨nmNoRooms, qNoRooms, NNoRooms, bsNoRooms, _, snNoRooms, subNoRooms, abNoRooms, colNoRooms, ddNoRooms, m0NoRooms, m1NoRooms, m2NoRooms, m3NoRooms, m5NoRooms, xlNoRooms, own_mro C0⟩, saNoRooms, eCNoRooms, tCNoRooms, kCNoRooms⟩, ⟨gaNoRooms, ggNoRooms, eCNoRooms, hCNoRooms⟩, nwNoRooms, aiNoRooms, tiNoRooms, clNoRooms, acNoRooms, moNoRooms⟩
  have E_NoRooms := own_NoRooms (P := l.prog) (w := w) (base := base) ONoRooms (fun_mk (st := sI_NoRooms) liNoRooms ciNoRooms kiNoRooms) T0
  have kv_NoRooms := kit_ve svNoRooms
  have k_NoRooms_NoGuest := kit_no suNoRoomsNoGuest clNoGuest tCNoGuest neNoRoomsNoGuest
  have k_NoRooms_NoRooms := kit_self (K := K) CNoRooms
  have k_NoRooms_NoRoom := kit_no suNoRoomsNoRoom clNoRoom tCNoRoom neNoRoomsNoRoom
  have k_NoRooms_NoCrowd := kit_no suNoRoomsNoCrowd clNoCrowd tCNoCrowd neNoRoomsNoCrowd
  have k_NoRooms_NoText := kit_no suNoRoomsNoText clNoText tCNoText neNoRoomsNoText
  have teNoRooms : PySem.W.exmOne K (.ref CNoRooms) (.ref C0) = some true := te_of eC0 hC0 tC0 suNoRooms
  have ONoRoom : Own K mg "NoRoom" CNoRoom fNoRoom := ⟨PySem.W.mg_of X G gNoRoom, ⟨⟨nmNoRoom, qNoRoom, NNoRoom, bsNoRoom, _, snNoRoom, subNoRoom, abNoRoom, colNoRoom, ddNoRoom, m0NoRoom, m1NoRoom, m2NoRoom, m3NoRoom, m5NoRoom, xlNoRoom, own_mro C0⟩, saNoRoom, eCNoRoom, tCNoRoom, kCNoRoom⟩, ⟨gaNoRoom, ggNoRoom, eCNoRoom, hCNoRoom⟩, nwNoRoom, aiNoRoom, tiNoRoom, clNoRoom, acNoRoom, moNoRoom⟩
  have E_NoRoom := own_NoRoom (P := l.prog) (w := w) (base := base) ONoRoom (fun_mk (st := sI_NoRoom) liNoRoom ciNoRoom kiNoRoom) T0
  have kv_NoRoom := kit_ve svNoRoom
  have k_NoRoom_NoGuest := kit_no suNoRoomNoGuest clNoGuest tCNoGuest neNoRoomNoGuest
  have k_NoRoom_NoRooms := kit_no suNoRoomNoRooms clNoRooms tCNoRooms neNoRoomNoRooms
  have k_NoRoom_NoRoom := kit_self (K := K) CNoRoom
  have k_NoRoom_NoCrowd := kit_no suNoRoomNoCrowd clNoCrowd tCNoCrowd neNoRoomNoCrowd
  have k_NoRoom_NoText := kit_no suNoRoomNoText clNoText tCNoText neNoRoomNoText
  have teNoRoom : PySem.W.exmOne K (.ref CNoRoom) (.ref C0) = some true := te_of eC0 hC0 tC0 suNoRoom
  have ONoCrowd : Own K mg "NoCrowd" CNoCrowd fNoCrowd := ⟨PySem.W.mg_of X G gNoCrowd, ⟨⟨nmNoCrowd, qNoCrowd, NNoCrowd, bsNoCrowd, _, snNoCrowd, subNoCrowd, abNoCrowd, colNoCrowd, ddNoCrowd, m0NoCrowd, m1NoCrowd, m2NoCrowd, m3NoCrowd, m5NoCrowd, xlNoCrowd, own_mro C0⟩, saNoCrowd, eCNoCrowd, tCNoCrowd, kCNoCrowd⟩, ⟨gaNoCrowd, ggNoCrowd, eCNoCrowd, hCNoCrowd⟩, nwNoCrowd, aiNoCrowd, tiNoCrowd, clNoCrowd, acNoCrowd, moNoCrowd⟩
  have E_NoCrowd := own_NoCrowd (P := l.prog) (w := w) (base := base) ONoCrowd (fun_mk (st := sI_NoCrowd) liNoCrowd ciNoCrowd kiNoCrowd) T0
  have kv_NoCrowd := kit_ve svNoCrowd
  have k_NoCrowd_NoGuest := kit_no suNoCrowdNoGuest clNoGuest tCNoGuest neNoCrowdNoGuest
  have k_NoCrowd_NoRooms := kit_no suNoCrowdNoRooms clNoRooms tCNoRooms neNoCrowdNoRooms
  have k_NoCrowd_NoRoom := kit_no suNoCrowdNoRoom clNoRoom tCNoRoom neNoCrowdNoRoom
  have k_NoCrowd_NoCrowd := kit_self (K := K) CNoCrowd
  have k_NoCrowd_NoText := kit_no suNoCrowdNoText clNoText tCNoText neNoCrowdNoText
  have teNoCrowd : PySem.W.exmOne K (.ref CNoCrowd) (.ref C0) = some true := te_of eC0 hC0 tC0 suNoCrowd
  have ONoText : Own K mg "NoText" CNoText fNoText := ⟨PySem.W.mg_of X G gNoText, ⟨⟨nmNoText, qNoText, NNoText, bsNoText, _, snNoText, subNoText, abNoText, colNoText, ddNoText, m0NoText, m1NoText, m2NoText, m3NoText, m5NoText, xlNoText, own_mro C0⟩, saNoText, eCNoText, tCNoText, kCNoText⟩, ⟨gaNoText, ggNoText, eCNoText, hCNoText⟩, nwNoText, aiNoText, tiNoText, clNoText, acNoText, moNoText⟩
  have E_NoText := own_NoText (P := l.prog) (w := w) (base := base) ONoText (fun_mk (st := sI_NoText) liNoText ciNoText kiNoText) T0
  have kv_NoText := kit_ve svNoText
  have k_NoText_NoGuest := kit_no suNoTextNoGuest clNoGuest tCNoGuest neNoTextNoGuest
  have k_NoText_NoRooms := kit_no suNoTextNoRooms clNoRooms tCNoRooms neNoTextNoRooms
  have k_NoText_NoRoom := kit_no suNoTextNoRoom clNoRoom tCNoRoom neNoTextNoRoom
  have k_NoText_NoCrowd := kit_no suNoTextNoCrowd clNoCrowd tCNoCrowd neNoTextNoCrowd
  have k_NoText_NoText := kit_self (K := K) CNoText
  have teNoText : PySem.W.exmOne K (.ref CNoText) (.ref C0) = some true := te_of eC0 hC0 tC0 suNoText
  have G_InnError := PySem.W.mg_of X G aC0
  have G_NoGuest := PySem.W.mg_of X G gNoGuest
  have G_NoRooms := PySem.W.mg_of X G gNoRooms
  have G_NoRoom := PySem.W.mg_of X G gNoRoom
  have G_NoCrowd := PySem.W.mg_of X G gNoCrowd
  have G_NoText := PySem.W.mg_of X G gNoText
  have KX_InnError : BareK K mg C0 := ⟨PySem.W.mg_of X G aC0, q0, kp0, ⟨cl0, ⟨ga0, gg0, eC0, hC0⟩, ac0, mo0⟩⟩
  have KE : KErr K C0 [CNoGuest, CNoRooms, CNoRoom, CNoCrowd, CNoText, C0] := fun D m => by
    simp only [List.mem_cons, List.not_mem_nil, or_false] at m
    rcases m with rfl | rfl | rfl | rfl | rfl | rfl
    · exact ⟨kit_su suNoGuest cl0 tC0, kv_NoGuest⟩
    · exact ⟨kit_su suNoRooms cl0 tC0, kv_NoRooms⟩
    · exact ⟨kit_su suNoRoom cl0 tC0, kv_NoRoom⟩
    · exact ⟨kit_su suNoCrowd cl0 tC0, kv_NoCrowd⟩
    · exact ⟨kit_su suNoText cl0 tC0, kv_NoText⟩
    · exact ⟨kit_self _, kit_ve sv0⟩
  have KR : KdR K C0 CNoGuest CNoCrowd CNoRoom CNoRooms CNoText := ⟨teNoGuest, k_NoGuest_NoGuest, kit_none (fun c m => by
    simp only [List.mem_cons, List.not_mem_nil, or_false] at m
    rcases m with rfl | rfl | rfl | rfl
    · exact k_NoGuest_NoCrowd
    · exact k_NoGuest_NoRoom
    · exact k_NoGuest_NoRooms
    · exact k_NoGuest_NoText), kv_NoGuest⟩
  have OK_NoRoom := ownK_NoRoom (P := l.prog) (w := w) (base := base) ONoRoom (fun_mk (st := sI_NoRoom) liNoRoom ciNoRoom kiNoRoom) T0
  have OK_NoText := ownK_NoText (P := l.prog) (w := w) (base := base) ONoText (fun_mk (st := sI_NoText) liNoText ciNoText kiNoText) T0
  have D_check_newcomer := ok_check_newcomer (P := l.prog) (w := w) (base := base) A1 
  have XD_check_newcomer := okb_check_newcomer (P := l.prog) (w := w) (base := base) A1 E_NoGuest
  have D_eldest_upset := ok_eldest_upset (P := l.prog) (w := w) (base := base) A2 B
  have T : InnT K mg C := ⟨⟨ypg, yhd, ypo, ysa⟩, yn0, yn1, PySem.W.mg_of X G yC⟩
  have QF0 := fun_mk (st := s_Inn___init__) ql0 qc0 qk0
  have MK_Inn : Mk K C qf0 := ⟨ymk, qa0, qi0, ykc⟩
  have bI_Inn : Binds K _ P_Inn___init__ [] := QF0.binds (fun _ _ _ _ _ _ us hl => match us, hl with | [_], _ => rfl)
  have FI_Inn := ok_Inn___init__ (P := l.prog) (w := w) (mg := mg) (base := base) QF0 T
  have QF1 := fun_mk (st := s_Inn__enter) ql1 qc1 qk1
  have QA1 : Ma K C "_enter" "Inn._enter" P_Inn__enter s_Inn__enter := ⟨qf1, _, QF1, ⟨qa1, qi1, qk1⟩, QF1.binds (fun _ _ _ _ _ _ us hl => match us, hl with | [_, _, _], _ => rfl)⟩
  have M__enter := ok_Inn__enter (P := l.prog) (w := w) (mg := mg) (base := base) QA1 B T
  have QF2 := fun_mk (st := s_Inn_come) ql2 qc2 qk2
  have QA2 : Ma K C "come" "Inn.come" P_Inn_come s_Inn_come := ⟨qf2, _, QF2, ⟨qa2, qi2, qk2⟩, QF2.binds (fun _ _ _ _ _ _ us hl => match us, hl with | [_, _, _], _ => rfl)⟩
  have M_come := ok_Inn_come (P := l.prog) (w := w) (mg := mg) (base := base) QA2 B T D_check_newcomer D_eldest_upset M__enter
  have XB_come := okb_Inn_come (P := l.prog) (w := w) (base := base) QA2 B T XD_check_newcomer D_eldest_upset M__enter
  have XM_come := okx_Inn_come M_come XB_come
  have QF3 := fun_mk (st := s_Inn_rooms) ql3 qc3 qk3
  have QA3 : Ma K C "rooms" "Inn.rooms" P_Inn_rooms s_Inn_rooms := ⟨qf3, _, QF3, ⟨qa3, qi3, qk3⟩, QF3.binds (fun _ _ _ _ _ _ us hl => match us, hl with | [_], _ => rfl)⟩
  have M_rooms := ok_Inn_rooms (P := l.prog) (w := w) (mg := mg) (base := base) QA3 B T
  have QF4 := fun_mk (st := s_Inn__check_there) ql4 qc4 qk4
  have QA4 : Ma K C "_check_there" "Inn._check_there" P_Inn__check_there s_Inn__check_there := ⟨qf4, _, QF4, ⟨qa4, qi4, qk4⟩, QF4.binds (fun _ _ _ _ _ _ us hl => match us, hl with | [_, _], _ => rfl)⟩
  have M__check_there := ok_Inn__check_there (P := l.prog) (w := w) (mg := mg) (base := base) QA4 T
  have XM__check_there := okx_Inn__check_there (P := l.prog) (w := w) (base := base) QA4 T E_NoGuest M__check_there
  have QF5 := fun_mk (st := s_Inn_where) ql5 qc5 qk5
  have QA5 : Ma K C "where" "Inn.where" P_Inn_where s_Inn_where := ⟨qf5, _, QF5, ⟨qa5, qi5, qk5⟩, QF5.binds (fun _ _ _ _ _ _ us hl => match us, hl with | [_, _], _ => rfl)⟩
  have M_where := ok_Inn_where (P := l.prog) (w := w) (mg := mg) (base := base) QA5 B T M__check_there
  have XB_where := okb_Inn_where (P := l.prog) (w := w) (base := base) QA5 B T XM__check_there
  have XM_where := okx_Inn_where M_where XB_where
  have QF6 := fun_mk (st := s_Inn__bears) ql6 qc6 qk6
  have QA6 : Ma K C "_bears" "Inn._bears" P_Inn__bears s_Inn__bears := ⟨qf6, _, QF6, ⟨qa6, qi6, qk6⟩, QF6.binds (fun _ _ _ _ _ _ us hl => match us, hl with | [_, _, _], _ => rfl)⟩
  have M__bears := ok_Inn__bears (P := l.prog) (w := w) (mg := mg) (base := base) QA6 B T
  have QF7 := fun_mk (st := s_Inn__eldest_back) ql7 qc7 qk7
  have QA7 : Ma K C "_eldest_back" "Inn._eldest_back" P_Inn__eldest_back s_Inn__eldest_back := ⟨qf7, _, QF7, ⟨qa7, qi7, qk7⟩, QF7.binds (fun _ _ _ _ _ _ us hl => match us, hl with | [_, _], _ => rfl)⟩
  have M__eldest_back := ok_Inn__eldest_back (P := l.prog) (w := w) (mg := mg) (base := base) QA7 B T M__bears
  have QF8 := fun_mk (st := s_Inn_go) ql8 qc8 qk8
  have QA8 : Ma K C "go" "Inn.go" P_Inn_go s_Inn_go := ⟨qf8, _, QF8, ⟨qa8, qi8, qk8⟩, QF8.binds (fun _ _ _ _ _ _ us hl => match us, hl with | [_, _], _ => rfl)⟩
  have M_go := ok_Inn_go (P := l.prog) (w := w) (mg := mg) (base := base) QA8 B T M_where M__eldest_back M__enter
  have XB_go := okb_Inn_go (P := l.prog) (w := w) (base := base) QA8 B T XM_where M__eldest_back M__enter
  have XM_go := okx_Inn_go M_go XB_go
  have QF9 := fun_mk (st := s_Inn_turn) ql9 qc9 qk9
  have QA9 : Ma K C "turn" "Inn.turn" P_Inn_turn s_Inn_turn := ⟨qf9, _, QF9, ⟨qa9, qi9, qk9⟩, QF9.binds (fun _ _ _ _ _ _ us hl => match us, hl with | [_, _, _], _ => rfl)⟩
  have M_turn := ok_Inn_turn (P := l.prog) (w := w) (mg := mg) (base := base) QA9 B T M__check_there M_go M_come
  have XB_turn := okb_Inn_turn (P := l.prog) (w := w) (base := base) QA9 B T E_NoGuest XM__check_there M_go M_come
  have XM_turn := okx_Inn_turn M_turn XB_turn
  have QF10 := fun_mk (st := s_Inn_guests) ql10 qc10 qk10
  have QA10 : Ma K C "guests" "Inn.guests" P_Inn_guests s_Inn_guests := ⟨qf10, _, QF10, ⟨qa10, qi10, qk10⟩, QF10.binds (fun _ _ _ _ _ _ us hl => match us, hl with | [_], _ => rfl)⟩
  have M_guests := ok_Inn_guests (P := l.prog) (w := w) (mg := mg) (base := base) QA10 B T
  have QF11 := fun_mk (st := s_Inn___len__) ql11 qc11 qk11
  have QA11 : Ma K C "__len__" "Inn.__len__" P_Inn___len__ s_Inn___len__ := ⟨qf11, _, QF11, ⟨qa11, qi11, qk11⟩, QF11.binds (fun _ _ _ _ _ _ us hl => match us, hl with | [_], _ => rfl)⟩
  have M___len__ := ok_Inn___len__ (P := l.prog) (w := w) (mg := mg) (base := base) QA11 B T
  have D__law_deck := ok__law_deck (P := l.prog) (w := w) (base := base) A3 B
  have D__law_take := ok__law_take (P := l.prog) (w := w) (base := base) A4 B
  have D__law_old := ok__law_old (P := l.prog) (w := w) (base := base) A5 B D__law_take
  have D__law_folk := ok__law_folk (P := l.prog) (w := w) (base := base) A6 B D__law_take D__law_old
  have D__law_refusal := ok__law_refusal (P := l.prog) (w := w) (base := base) A7 B T JX KR ⟨_, _, ONoGuest⟩ G_InnError G_NoGuest G_NoCrowd G_NoRoom G_NoRooms G_NoText XM_come XM_turn XM_go XM_where
  have D__law_errors_right := ok__law_errors_right (P := l.prog) (w := w) (base := base) A8 B JX G_InnError KX_InnError KE E_NoGuest E_NoRooms OK_NoRoom E_NoCrowd OK_NoText
  have D__law_asked := ok__law_asked (P := l.prog) (w := w) (base := base) A9 B D__law_refusal
  have D__law_by_age := ok__law_by_age (P := l.prog) (w := w) (base := base) A10 B
  have D__law_behind_right := ok__law_behind_right (P := l.prog) (w := w) (base := base) A11 B T M_come M_go M_turn M_rooms M_guests M_where D__law_take D__law_by_age
  have D_law := ok_law (P := l.prog) (w := w) (base := base) A12 B T MK_Inn FI_Inn bI_Inn M_rooms M_guests M___len__ D__law_deck D__law_take D__law_folk D__law_errors_right D__law_asked D__law_behind_right
  exact D_law.at hfa l12
end El
open PySem PySem.W PyProof.Rows
set_option maxRecDepth 100000 in
set_option maxHeartbeats 0 in
theorem PySem.Challenge.cw_elderinn_k13_inns_refused_holds : PySem.Challenge.rw_elderinn_k13_inns_refused.Holds := by
  w_on; o_law; k_head; (case hw => w_witness2)
  k_fill
  refine L2.walk_of (l := PySem.Challenge.rw_elderinn_k13_inns_refused) (n := 63) (k := 8) (x := "script") (CX := fun _ => L2.CX0) (sp := fun w => El.sp_law _) rfl (by decide) rfl ⟨rfl, by decide, by decide⟩ (fun w h Y => PySem.W.kIn_of Y) ?F (fun _ _ a ns hl _ hS => ⟨a, ns, rfl, hS, hl, fun _ => rfl⟩) (fun _ _ _ _ _ h => h)
  case F =>
    intro w mg fa h KX G hmg
    refine' El.all_mk KX G hmg ?a1 ?l1 ?c1 ?k1 ?a2 ?l2 ?c2 ?k2 ?a3 ?l3 ?c3 ?k3 ?a4 ?l4 ?c4 ?k4 ?a5 ?l5 ?c5 ?k5 ?a6 ?l6 ?c6 ?k6 ?a7 ?l7 ?c7 ?k7 ?a8 ?l8 ?c8 ?k8 ?a9 ?l9 ?c9 ?k9 ?a10 ?l10 ?c10 ?k10 ?a11 ?l11 ?c11 ?k11 ?a12 ?l12 ?c12 ?k12 ?aC0 ?rd0 ?sg0 ?fc0 ?eC0 ?hC0 ?tC0 ?jn ?jt ?gNoGuest ?xlNoGuest ?saNoGuest ?gaNoGuest ?ggNoGuest ?nwNoGuest ?aiNoGuest ?tiNoGuest ?liNoGuest ?ciNoGuest ?kiNoGuest ?kCNoGuest ?eCNoGuest ?tCNoGuest ?hCNoGuest ?clNoGuest ?svNoGuest ?acNoGuest ?moNoGuest ?suNoGuest ?gNoRooms ?xlNoRooms ?saNoRooms ?gaNoRooms ?ggNoRooms ?nwNoRooms ?aiNoRooms ?tiNoRooms ?liNoRooms ?ciNoRooms ?kiNoRooms ?kCNoRooms ?eCNoRooms ?tCNoRooms ?hCNoRooms ?clNoRooms ?svNoRooms ?acNoRooms ?moNoRooms ?suNoRooms ?gNoRoom ?xlNoRoom ?saNoRoom ?gaNoRoom ?ggNoRoom ?nwNoRoom ?aiNoRoom ?tiNoRoom ?liNoRoom ?ciNoRoom ?kiNoRoom ?kCNoRoom ?eCNoRoom ?tCNoRoom ?hCNoRoom ?clNoRoom ?svNoRoom ?acNoRoom ?moNoRoom ?suNoRoom ?gNoCrowd ?xlNoCrowd ?saNoCrowd ?gaNoCrowd ?ggNoCrowd ?nwNoCrowd ?aiNoCrowd ?tiNoCrowd ?liNoCrowd ?ciNoCrowd ?kiNoCrowd ?kCNoCrowd ?eCNoCrowd ?tCNoCrowd ?hCNoCrowd ?clNoCrowd ?svNoCrowd ?acNoCrowd ?moNoCrowd ?suNoCrowd ?gNoText ?xlNoText ?saNoText ?gaNoText ?ggNoText ?nwNoText ?aiNoText ?tiNoText ?liNoText ?ciNoText ?kiNoText ?kCNoText ?eCNoText ?tCNoText ?hCNoText ?clNoText ?svNoText ?acNoText ?moNoText ?suNoText ?suNoGuestNoRooms ?neNoGuestNoRooms ?suNoGuestNoRoom ?neNoGuestNoRoom ?suNoGuestNoCrowd ?neNoGuestNoCrowd ?suNoGuestNoText ?neNoGuestNoText ?suNoRoomsNoGuest ?neNoRoomsNoGuest ?suNoRoomsNoRoom ?neNoRoomsNoRoom ?suNoRoomsNoCrowd ?neNoRoomsNoCrowd ?suNoRoomsNoText ?neNoRoomsNoText ?suNoRoomNoGuest ?neNoRoomNoGuest ?suNoRoomNoRooms ?neNoRoomNoRooms ?suNoRoomNoCrowd ?neNoRoomNoCrowd ?suNoRoomNoText ?neNoRoomNoText ?suNoCrowdNoGuest ?neNoCrowdNoGuest ?suNoCrowdNoRooms ?neNoCrowdNoRooms ?suNoCrowdNoRoom ?neNoCrowdNoRoom ?suNoCrowdNoText ?neNoCrowdNoText ?suNoTextNoGuest ?neNoTextNoGuest ?suNoTextNoRooms ?neNoTextNoRooms ?suNoTextNoRoom ?neNoTextNoRoom ?suNoTextNoCrowd ?neNoTextNoCrowd ?q0 ?kp0 ?ga0 ?gg0 ?ac0 ?mo0 ?cl0 ?sv0 ?yC ?ypg ?yhd ?ypo ?ysa ?ymk ?ykc ?yn0 ?yn1 ?qa0 ?qi0 ?ql0 ?qc0 ?qk0 ?qa1 ?qi1 ?ql1 ?qc1 ?qk1 ?qa2 ?qi2 ?ql2 ?qc2 ?qk2 ?qa3 ?qi3 ?ql3 ?qc3 ?qk3 ?qa4 ?qi4 ?ql4 ?qc4 ?qk4 ?qa5 ?qi5 ?ql5 ?qc5 ?qk5 ?qa6 ?qi6 ?ql6 ?qc6 ?qk6 ?qa7 ?qi7 ?ql7 ?qc7 ?qk7 ?qa8 ?qi8 ?ql8 ?qc8 ?qk8 ?qa9 ?qi9 ?ql9 ?qc9 ?qk9 ?qa10 ?qi10 ?ql10 ?qc10 ?qk10 ?qa11 ?qi11 ?ql11 ?qc11 ?qk11 ?z1 ?z2 ?z3 ?z4 ?z5 ?z6 ?z7 ?z8 ?z9 ?z10 ?z11 ?z12 ?z13 ?z14 ?z15 ?z16 ?z17 ?z18 ?z19 ?z20 ?z21 ?z22 ?z23
    (case a1 => k_is)
    (case l1 => k_is)
    (case c1 => k_is)
    (case k1 => k_is)
    (case a2 => k_is)
    (case l2 => k_is)
    (case c2 => k_is)
    (case k2 => k_is)
    (case a3 => k_is)
    (case l3 => k_is)
    (case c3 => k_is)
    (case k3 => k_is)
    (case a4 => k_is)
    (case l4 => k_is)
    (case c4 => k_is)
    (case k4 => k_is)
    (case a5 => k_is)
    (case l5 => k_is)
    (case c5 => k_is)
    (case k5 => k_is)
    (case a6 => k_is)
    (case l6 => k_is)
    (case c6 => k_is)
    (case k6 => k_is)
    (case a7 => k_is)
    (case l7 => k_is)
    (case c7 => k_is)
    (case k7 => k_is)
    (case a8 => k_is)
    (case l8 => k_is)
    (case c8 => k_is)
    (case k8 => k_is)
    (case a9 => k_is)
    (case l9 => k_is)
    (case c9 => k_is)
    (case k9 => k_is)
    (case a10 => k_is)
    (case l10 => k_is)
    (case c10 => k_is)
    (case k10 => k_is)
    (case a11 => k_is)
    (case l11 => k_is)
    (case c11 => k_is)
    (case k11 => k_is)
    (case a12 => k_is)
    (case l12 => k_is)
    (case c12 => k_is)
    (case k12 => k_is)
    (case aC0 => k_is)
    (case rd0 => k_is)
    (case sg0 => k_is)
    (case fc0 => k_is)
    (case eC0 => k_is)
    (case hC0 => k_is)
    (case tC0 => k_is)
    (case jn => k_is)
    (case jt => k_is)
    (case gNoGuest => k_is)
    (case xlNoGuest => k_is)
    (case saNoGuest => k_is)
    (case gaNoGuest => k_is)
    (case ggNoGuest => k_is)
    (case nwNoGuest => k_is)
    (case aiNoGuest => k_is)
    (case tiNoGuest => k_is)
    (case liNoGuest => k_is)
    (case ciNoGuest => k_is)
    (case kiNoGuest => k_is)
    (case kCNoGuest => k_is)
    (case eCNoGuest => k_is)
    (case tCNoGuest => k_is)
    (case hCNoGuest => k_is)
    (case clNoGuest => k_is)
    (case svNoGuest => k_is)
    (case acNoGuest => k_is)
    (case moNoGuest => k_is)
    (case suNoGuest => k_is)
    (case gNoRooms => k_is)
    (case xlNoRooms => k_is)
    (case saNoRooms => k_is)
    (case gaNoRooms => k_is)
    (case ggNoRooms => k_is)
    (case nwNoRooms => k_is)
    (case aiNoRooms => k_is)
    (case tiNoRooms => k_is)
    (case liNoRooms => k_is)
    (case ciNoRooms => k_is)
    (case kiNoRooms => k_is)
    (case kCNoRooms => k_is)
    (case eCNoRooms => k_is)
    (case tCNoRooms => k_is)
    (case hCNoRooms => k_is)
    (case clNoRooms => k_is)
    (case svNoRooms => k_is)
    (case acNoRooms => k_is)
    (case moNoRooms => k_is)
    (case suNoRooms => k_is)
    (case gNoRoom => k_is)
    (case xlNoRoom => k_is)
    (case saNoRoom => k_is)
    (case gaNoRoom => k_is)
    (case ggNoRoom => k_is)
    (case nwNoRoom => k_is)
    (case aiNoRoom => k_is)
    (case tiNoRoom => k_is)
    (case liNoRoom => k_is)
    (case ciNoRoom => k_is)
    (case kiNoRoom => k_is)
    (case kCNoRoom => k_is)
    (case eCNoRoom => k_is)
    (case tCNoRoom => k_is)
    (case hCNoRoom => k_is)
    (case clNoRoom => k_is)
    (case svNoRoom => k_is)
    (case acNoRoom => k_is)
    (case moNoRoom => k_is)
    (case suNoRoom => k_is)
    (case gNoCrowd => k_is)
    (case xlNoCrowd => k_is)
    (case saNoCrowd => k_is)
    (case gaNoCrowd => k_is)
    (case ggNoCrowd => k_is)
    (case nwNoCrowd => k_is)
    (case aiNoCrowd => k_is)
    (case tiNoCrowd => k_is)
    (case liNoCrowd => k_is)
    (case ciNoCrowd => k_is)
    (case kiNoCrowd => k_is)
    (case kCNoCrowd => k_is)
    (case eCNoCrowd => k_is)
    (case tCNoCrowd => k_is)
    (case hCNoCrowd => k_is)
    (case clNoCrowd => k_is)
    (case svNoCrowd => k_is)
    (case acNoCrowd => k_is)
    (case moNoCrowd => k_is)
    (case suNoCrowd => k_is)
    (case gNoText => k_is)
    (case xlNoText => k_is)
    (case saNoText => k_is)
    (case gaNoText => k_is)
    (case ggNoText => k_is)
    (case nwNoText => k_is)
    (case aiNoText => k_is)
    (case tiNoText => k_is)
    (case liNoText => k_is)
    (case ciNoText => k_is)
    (case kiNoText => k_is)
    (case kCNoText => k_is)
    (case eCNoText => k_is)
    (case tCNoText => k_is)
    (case hCNoText => k_is)
    (case clNoText => k_is)
    (case svNoText => k_is)
    (case acNoText => k_is)
    (case moNoText => k_is)
    (case suNoText => k_is)
    (case suNoGuestNoRooms => k_is)
    (case neNoGuestNoRooms => decide)
    (case suNoGuestNoRoom => k_is)
    (case neNoGuestNoRoom => decide)
    (case suNoGuestNoCrowd => k_is)
    (case neNoGuestNoCrowd => decide)
    (case suNoGuestNoText => k_is)
    (case neNoGuestNoText => decide)
    (case suNoRoomsNoGuest => k_is)
    (case neNoRoomsNoGuest => decide)
    (case suNoRoomsNoRoom => k_is)
    (case neNoRoomsNoRoom => decide)
    (case suNoRoomsNoCrowd => k_is)
    (case neNoRoomsNoCrowd => decide)
    (case suNoRoomsNoText => k_is)
    (case neNoRoomsNoText => decide)
    (case suNoRoomNoGuest => k_is)
    (case neNoRoomNoGuest => decide)
    (case suNoRoomNoRooms => k_is)
    (case neNoRoomNoRooms => decide)
    (case suNoRoomNoCrowd => k_is)
    (case neNoRoomNoCrowd => decide)
    (case suNoRoomNoText => k_is)
    (case neNoRoomNoText => decide)
    (case suNoCrowdNoGuest => k_is)
    (case neNoCrowdNoGuest => decide)
    (case suNoCrowdNoRooms => k_is)
    (case neNoCrowdNoRooms => decide)
    (case suNoCrowdNoRoom => k_is)
    (case neNoCrowdNoRoom => decide)
    (case suNoCrowdNoText => k_is)
    (case neNoCrowdNoText => decide)
    (case suNoTextNoGuest => k_is)
    (case neNoTextNoGuest => decide)
    (case suNoTextNoRooms => k_is)
    (case neNoTextNoRooms => decide)
    (case suNoTextNoRoom => k_is)
    (case neNoTextNoRoom => decide)
    (case suNoTextNoCrowd => k_is)
    (case neNoTextNoCrowd => decide)
    (case q0 => k_exc)
    (case kp0 => k_is)
    (case ga0 => k_is)
    (case gg0 => k_is)
    (case ac0 => k_is)
    (case mo0 => k_is)
    (case cl0 => k_is)
    (case sv0 => k_is)
    (case yC => k_is)
    (case ypg => k_is)
    (case yhd => k_is)
    (case ypo => k_is)
    (case ysa => k_is)
    (case ymk => k_is)
    (case ykc => k_is)
    (case yn0 => k_is)
    (case yn1 => k_is)
    (case qa0 => k_is)
    (case qi0 => k_is)
    (case ql0 => k_is)
    (case qc0 => k_is)
    (case qk0 => k_is)
    (case qa1 => k_is)
    (case qi1 => k_is)
    (case ql1 => k_is)
    (case qc1 => k_is)
    (case qk1 => k_is)
    (case qa2 => k_is)
    (case qi2 => k_is)
    (case ql2 => k_is)
    (case qc2 => k_is)
    (case qk2 => k_is)
    (case qa3 => k_is)
    (case qi3 => k_is)
    (case ql3 => k_is)
    (case qc3 => k_is)
    (case qk3 => k_is)
    (case qa4 => k_is)
    (case qi4 => k_is)
    (case ql4 => k_is)
    (case qc4 => k_is)
    (case qk4 => k_is)
    (case qa5 => k_is)
    (case qi5 => k_is)
    (case ql5 => k_is)
    (case qc5 => k_is)
    (case qk5 => k_is)
    (case qa6 => k_is)
    (case qi6 => k_is)
    (case ql6 => k_is)
    (case qc6 => k_is)
    (case qk6 => k_is)
    (case qa7 => k_is)
    (case qi7 => k_is)
    (case ql7 => k_is)
    (case qc7 => k_is)
    (case qk7 => k_is)
    (case qa8 => k_is)
    (case qi8 => k_is)
    (case ql8 => k_is)
    (case qc8 => k_is)
    (case qk8 => k_is)
    (case qa9 => k_is)
    (case qi9 => k_is)
    (case ql9 => k_is)
    (case qc9 => k_is)
    (case qk9 => k_is)
    (case qa10 => k_is)
    (case qi10 => k_is)
    (case ql10 => k_is)
    (case qc10 => k_is)
    (case qk10 => k_is)
    (case qa11 => k_is)
    (case qi11 => k_is)
    (case ql11 => k_is)
    (case qc11 => k_is)
    (case qk11 => k_is)
    (case z1 => k_is)
    (case z2 => k_is)
    (case z3 => k_is)
    (case z4 => k_is)
    (case z5 => k_is)
    (case z6 => k_is)
    (case z7 => k_is)
    (case z8 => k_is)
    (case z9 => k_is)
    (case z10 => k_is)
    (case z11 => k_is)
    (case z12 => k_is)
    (case z13 => k_is)
    (case z14 => k_is)
    (case z15 => k_is)
    (case z16 => k_is)
    (case z17 => k_is)
    (case z18 => k_is)
    (case z19 => k_is)
    (case z20 => k_is)
    (case z21 => k_is)
    (case z22 => k_is)
    (case z23 => k_is)
